"""Opened programs, and the runs that show why words are refused."""

import itertools
import time
import unittest

from tests import reference
from tests.helpers import Case, ops, store_of
from wordmint.effects import check
from wordmint.errors import NoWord, TooLong
from wordmint.forms import BUILDING, EFFECTS, Word
from wordmint.machine import Machine
from wordmint.opening import opened, opened_places, witness
from wordmint.stores import Store


def shell(takes, leaves):
    return ops("drop " * takes + "lit#0 " * leaves)


class Forms(Case):
    def becomes(self, text, told, store=None, first=""):
        """The instruction becomes these ones, between others that stay."""
        store = store_of("exit") if store is None else store
        number = store.define(ops(first + " " + text + " >r exit"))
        program, where = opened(store, number)
        told = ops(told) if isinstance(told, str) else told
        shift = len(first.split())
        ahead = len(opened_places(store, number)) - 3 - shift
        self.assertEqual(ahead, 0)
        self.assertEqual(program[where].body[opened_places(store, number)[shift]:], told + ops(">r exit"))

    def test_what_stays(self):
        for op in (">r", "r>", "r@", "exit", "recurse"):
            self.becomes(op, op)
        self.becomes("goto#1", "goto#1")
        self.becomes("call#0", "call#0")
        self.becomes("jump#0", "jump#0")

    def test_answers(self):
        self.becomes("unless#1", "drop ask unless#3")
        self.becomes("throw", "drop ask throw")

    def test_by_effects(self):
        for op, (takes, leaves) in EFFECTS.items():
            if op not in (">r", "r>", "r@", "goto", "exit", "unless", "throw", "local", "set", "lit", "data", "token",
                          "is"):
                self.becomes(op, shell(takes, leaves))
        for text in ("lit#5", "data#7", "token#0"):
            self.becomes(text, "lit#0")
        self.becomes("is#0", "drop")
        self.becomes("run#2,3", "drop drop drop lit#0 lit#0 lit#0")
        self.becomes("run#0,0", "drop")
        self.becomes("catch#2", "drop drop drop lit#0 lit#0 lit#0")
        self.becomes("catch#0", "drop lit#0")
        self.becomes("perform", "drop")
        self.becomes("local#1", "lit#0", first="locals#2")
        self.becomes("set#0", "drop", first="locals#2")

    def test_locals(self):
        store = store_of("locals#3 local#2 exit")
        self.assertEqual(opened(store, 0)[0][0].body, ops("drop drop drop lit#0 exit"))

    def test_acts_of_no_effect_become_none(self):
        store = store_of("goto#2 exit ] : goto#5 [ exit")
        self.assertEqual(opened(store, 0)[0][0].body, ops("goto#2 exit goto#3 exit"))
        self.assertEqual(opened_places(store, 0), (0, 1, 2, 2, 2, 3, 3))
        self.assertEqual([op for op in BUILDING if EFFECTS[op] == (0, 0)][:2], ["[", "]"])

    def test_deferred_words(self):
        store = store_of("exit")
        store.defer((2, 1))
        self.becomes("call#1", "drop drop lit#0", store=store)
        self.becomes("jump#1", "drop drop lit#0 exit", store=store)
        program, number = opened(store, 1)
        self.assertEqual((program[0].body, program[0].declared), (ops("drop drop lit#0 exit"), (2, 1)))
        self.assertEqual((len(program), number, opened_places(store, 1)), (1, 0, (0, 3)))

    def test_markers(self):
        store = store_of("exit")
        body = ops("forget exit")
        store.words.append(Word("m", -1, "marker", False, body, None, check([], body), keeps=(0, (1, 0), 1, (), ())))
        program, number = opened(store, 1)
        self.assertEqual((program[number].body, opened_places(store, 1)), (ops("exit"), (0, 0)))
        self.assertEqual(witness(store, 1), (program, 0, (), ((),)))

    def test_places_move_along(self):
        store = store_of("unless#5 dup goto#4 over swap unless#0 exit")
        self.assertEqual(opened_places(store, 0), (0, 3, 6, 7, 12, 16, 19))
        self.assertEqual(opened(store, 0)[0][0].body, ops(
            "drop ask unless#16 drop lit#0 lit#0 goto#12 drop drop lit#0 lit#0 lit#0 drop drop lit#0 lit#0 "
            "drop ask unless#0 exit"))


class Programs(Case):
    def test_words_that_are_reached(self):
        store = store_of("lit#1 exit", "exit", "call#0 exit", "dup exit", ("jump#2", (0, 1)), "token#3 drop exit")
        program, number = opened(store, 4)
        self.assertEqual(number, 2)
        self.assertEqual(program.width, 16)
        self.assertEqual([word.body for word in program], [ops("lit#0 exit"), ops("call#0 exit"), ops("jump#1")])
        self.assertEqual([word.declared for word in program], [None, None, (0, 1)])
        for word in program:
            self.assertEqual((word.name, word.home, word.kind, word.immediate), ("", -1, "plain", False))
        self.assertEqual(opened(store, 5)[0][0].body, ops("lit#0 drop exit"))

    def test_calls_that_are_never_come_to_count(self):
        store = store_of("dup exit", "exit call#0 exit")
        program, number = opened(store, 1)
        self.assertEqual([word.body for word in program], [ops("drop lit#0 lit#0 exit"), ops("exit call#0 exit")])

    def test_refused_words_are_reached(self):
        store = store_of("perform exit", "call#0 exit")
        program, number = opened(store, 1)
        self.assertEqual([word.body for word in program], [ops("drop exit"), ops("call#0 exit")])

    def test_what_deferred_words_reach_does_not_count(self):
        store = store_of("dup exit")
        store.defer((1, 2), action=0)
        store.define(ops("call#1 exit"), name="x", immediate=True)
        program, number = opened(store, 2)
        self.assertEqual((len(program), number, program[0].name, program[0].immediate), (1, 0, "", False))

    def test_any_width(self):
        store = store_of("lit#100000 @ exit", width=32)
        self.assertEqual(opened(store, 0)[0].width, 16)
        self.assertEqual(opened(store, 0)[0][0].body, ops("lit#0 drop lit#0 exit"))

    def test_the_store_stays(self):
        store = store_of("unless#2 exit exit", "call#0 exit")
        before = store.copy()
        opened(store, 1)[0].define(ops("exit"))
        opened_places(store, 1)
        witness(store, 1)
        self.assertEqual(store, before)

    def test_no_such_word(self):
        store = store_of("exit")
        for number in (-1, 1, True, None, "0"):
            for call in (opened, opened_places, witness):
                self.fails(NoWord, number, call, store, number)

    def test_too_long(self):
        before = time.time()
        # Each dup becomes three instructions.
        fits, long = "dup " * 2333 + "exit", "dup " * 2333 + "goto#2334 exit"
        store = store_of(fits, long, "call#0 exit", "call#1 exit", "dup " * 3000 + "exit", "call#4 call#1 exit")
        self.assertEqual(len(opened(store, 0)[0][0].body), 7000)
        self.fails(TooLong, 1, opened, store, 1)
        self.assertEqual(len(opened(store, 2)[0]), 2)
        self.fails(TooLong, 1, opened, store, 3)
        self.fails(TooLong, 4, opened, store, 4)
        self.fails(TooLong, 1, opened, store, 5)
        self.assertEqual(opened_places(store, 4)[2999:], (2999 * 3, 9000))
        self.assertIsNone(witness(store, 4))
        refused = store_of("dup " * 3000 + "perform exit", "call#0 exit")
        self.fails(TooLong, 0, witness, refused, 0)
        self.fails(TooLong, 0, witness, refused, 1)
        self.assertLess(time.time() - before, 30)


class Witnesses(Case):
    def test_by_hand(self):
        store = store_of("unless#2 lit#1 exit", "dup exit", ("dup exit", (1, 1)))
        program, number, stack, feeds = witness(store, 0)
        self.assertEqual((number, stack, feeds), (0, (0,), ((0,), (1,))))
        self.assertEqual(program[0].body, ops("drop ask unless#4 lit#0 exit"))
        self.assertIsNone(witness(store, 1))
        program, number, stack, feeds = witness(store, 2)
        self.assertEqual((number, stack, feeds, program[0].declared), (0, (0,), ((),), (1, 1)))

    def test_worked_example_by_machine(self):
        store = store_of("unless#2 lit#1 exit")
        program, number, stack, feeds = witness(store, 0)
        lengths = []
        for feed in feeds:
            machine = Machine(program, number, stack=stack, feed=feed)
            while machine.at() != (0, opened_places(store, 0)[2]):
                machine.step()
            lengths.append(len(machine.stack))
        self.assertEqual(lengths, [0, 1])

    def test_a_long_word(self):
        store = store_of("lit#0 throw " * 1001 + "exit")
        program, number, stack, feeds = witness(store, 0)
        machine = Machine(program, number, stack=stack, feed=feeds[0])
        while machine.at() is not None and machine.at()[1] != opened_places(store, 0)[2001]:
            machine.step()
        self.assertEqual((machine.kind, machine.feed), ("runs", ()))


class Shown(Case):
    """Refusals of words at random, shown by runs; and no lesser row shows the same."""

    def trace(self, program, number, stack, feed):
        """The run, and for each moment in the word itself (place, items, own items, answers left)."""
        machine = Machine(program, number, stack=stack, feed=feed, data=200, frames=200)
        told = []
        for word, place in machine.moments(1000):
            frames = machine.view()[3]
            told.append((place, len(machine.stack), len(frames[0][2]), len(machine.feed))
                        if len(frames) == 1 and word == number else None)
        return machine, told

    def shows(self, store, number, found, feed):
        """Whether the run with this feed shows the refusal, having taken all answers."""
        program, where, stack, feeds = found
        verdict = store[number].verdict
        machine, told = self.trace(program, where, stack, feed)
        places = opened_places(store, number) + (len(program[where].body),)
        first, behind = places[verdict.place], places[verdict.place + 1]
        op, arg = store[number].body[verdict.place]
        if verdict.kind == "out":
            return machine.kind == "done" and not machine.feed and len(machine.stack) != store[number].declared[1]
        if verdict.kind == "under" and op in ("call", "jump", "recurse") and program[where].body[first][0] == op:
            takes = store[number].declared[0] if op == "recurse" else store[arg].effect[0]
            return any(moment is not None and moment[0] == first and moment[1] < takes and moment[3] == 0
                       for moment in told)
        error = {"under": -1, "own": -2, "left": -3}[verdict.kind]
        return (machine.kind == "error" and machine.number == error and not machine.feed
                and told[-1] is not None and first <= told[-1][0] < behind)

    def comes_to(self, store, number, found, feed):
        """How the run with this feed comes to the place: (items, own items, answers left); and its end."""
        program, where, stack, feeds = found
        machine, told = self.trace(program, where, stack, feed)
        place = opened_places(store, number)[store[number].verdict.place]
        met = [moment[1:] for moment in told if moment is not None and moment[0] == place]
        return met, machine.kind, len(machine.stack)

    def test_at_random(self):
        kinds = {}
        for store in reference.stores(77, 900):
            for number, word in enumerate(store):
                verdict = word.verdict
                found = witness(store, number)
                self.assertEqual(found is None, word.effect is not None)
                if found is None:
                    continue
                kinds[verdict.kind] = kinds.get(verdict.kind, 0) + 1
                self.assertEqual(found[2], (0,) * verdict.need)
                self.look(store, number, verdict, found)
        for kind in ("unsaid", "free", "callee", "under", "own", "left", "out", "ragged"):
            self.assertGreater(kinds.get(kind, 0), 10, kind)

    def look(self, store, number, verdict, found):
        feeds = found[3]
        self.assertEqual(feeds, (verdict.other, verdict.row) if verdict.kind == "ragged" else (verdict.row,))
        self.assertTrue(self.comes_to(store, number, found, verdict.row)[0])
        if verdict.kind == "ragged":
            first, second = [self.comes_to(store, number, found, feed) for feed in feeds]
            unlike_exits = first[1] == second[1] == "done" and first[2] != second[2]
            met = [moment[:2] for moment in first[0] + second[0] if moment[2] == 0]
            self.assertTrue(unlike_exits or len(set(met)) > 1)
        elif verdict.kind in ("under", "own", "left", "out"):
            self.assertTrue(self.shows(store, number, found, verdict.row))
            for length in range(min(len(verdict.row), 5) + 1):
                for row in itertools.product((0, 1), repeat=length):
                    if reference.key(row) < reference.key(verdict.row):
                        self.assertFalse(self.shows(store, number, found, row))

    def test_words_that_are_let_by(self):
        for store in reference.stores(78, 300):
            for number, word in enumerate(store):
                if word.effect is not None and word.verdict.row is not None:
                    program, where = opened(store, number)
                    machine, told = self.trace(program, where, (0,) * word.verdict.ins, word.verdict.row)
                    self.assertEqual((machine.kind, machine.feed), ("done", ()))
                    self.assertEqual(len(machine.stack), word.verdict.outs)


if __name__ == "__main__":
    unittest.main()
