"""The worked examples of the document."""

import unittest

from wordmint.machine import Machine, ended
from wordmint.saving import save
from wordmint.session import Session
from wordmint.stepping import Tracer
from wordmint.stores import Store


class Examples(unittest.TestCase):
    def test_a_ragged_word(self):
        store = Store(16)
        store.define((("unless", 2), ("lit", 1), ("exit", 0)))
        verdict = store[0].verdict
        self.assertEqual([verdict.kind, verdict.place, verdict.row, verdict.other, verdict.need],
                         ["ragged", 2, (1,), (0,), 1])

    def test_a_caught_error(self):
        store = Store(16)
        store.define((("lit", 9), ("throw", 0), ("exit", 0)))
        store.define((("lit", 5), ("token", 0), ("catch", 0), ("exit", 0)))
        machine = ended(store, 1)
        self.assertEqual([machine.kind, machine.stack, machine.steps], ["done", (5, 9), 6])

    def test_a_word_and_its_output(self):
        session = Session(16)
        outcome = session.read([": sq dup * ;", "7 sq ."])
        self.assertEqual([outcome.kind, outcome.output], ["done", "49 "])

    def test_a_refused_reading(self):
        session = Session(16)
        outcome = session.read(["1 2 nope"])
        self.assertEqual([outcome.kind, outcome.number, outcome.line, outcome.column, session.stack],
                         ["error", -13, 0, 4, ()])

    def test_words_that_make_words(self):
        session = Session(16)
        session.read([": constant create , [: @ ;] behave ;", "5 constant five", "five five +"])
        self.assertEqual(session.stack, (10,))

    def test_an_image(self):
        store = Store(16)
        store.define((("dup", 0), ("*", 0), ("exit", 0)), name="sq")
        self.assertEqual(save(store), ["store 16", "bytes 0a00", "plain =sq -1 later - dup * exit", "end"])

    def test_a_tracer(self):
        store = Store(16)
        store.define((("dup", 0), ("*", 0), ("exit", 0)))
        tracer = Tracer(Machine(store, 0, stack=(3,)))
        self.assertEqual([tracer.step(), tracer.step(), tracer.back()],
                         [("reached", 1, 0, 1), ("reached", 2, 0, 2), ("reached", 1, 0, 1)])


if __name__ == "__main__":
    unittest.main()
