"""The worked examples of the document, as far as they have landed."""

import unittest

from wordmint.machine import ended
from wordmint.stores import Store


class Examples(unittest.TestCase):
    def test_a_ragged_word(self):
        store = Store(16)
        store.define((("unless", 2), ("lit", 1), ("exit", 0)))
        verdict = store[0].verdict
        self.assertEqual([verdict.kind, verdict.place, verdict.row, verdict.other, verdict.need],
                         ["ragged", 2, (1,), (0,), 1])

    def test_a_caught_error(self):
        store = Store(16)
        store.define((("lit", 9), ("throw", 0), ("exit", 0)))
        store.define((("lit", 5), ("token", 0), ("catch", 0), ("exit", 0)))
        machine = ended(store, 1)
        self.assertEqual([machine.kind, machine.stack, machine.steps], ["done", (5, 9), 6])


if __name__ == "__main__":
    unittest.main()
