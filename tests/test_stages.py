"""Staging: which words are staged, the staged store, and that runs end alike in it."""

import random

from tests import drawn, reference
from tests.helpers import Case, ops, store_of
from wordmint.errors import NoWord
from wordmint.machine import Machine
from wordmint.makers import full_actions
from wordmint.passes import Fold, Inline, Tail, Thread, Trim, settle
from wordmint.session import Session
from wordmint.stages import is_staged, staged, steps_saved
from wordmint.stores import Store
from wordmint.system import System

TEXT = [
    ": if unless> ; immediate : then >land ; immediate : else goto> swap >land ; immediate",
    ": begin <mark ; immediate : until <unless ; immediate : sq dup * ; : fourth sq sq ;",
    ": choose if 1 2 + else 3 then ; : count 5 begin dup . 1 - dup 0= until drop ;",
    "create box 7 , : bump box @ 1 + box ! ; defer later 1 1 : set is later ; ' fourth set",
    ": caught [: 5 throw ;] catch 0 drop ; : tail sq later ; : two 1 1 + later ;",
    ": make create , [: @ ;] behave ; : twice dup 2 * make ; : lists new-list also previous ; : mark state ;",
    ": down ( n -- 0 ) dup 0= if exit then 1 - recurse ; : free perform ; : bad if 1 then ;",
]


def system_of():
    session = Session(16)
    assert session.read(TEXT)
    return session.system


def ending(machine):
    """All that a run leaves."""
    store = machine.store
    told = [machine.kind, machine.number, machine.stack, machine.output, machine.feed, store.memory.all_bytes(),
            [word.action for word in store]]
    if isinstance(store, System):
        told.extend([store.lists.count, store.lists.order, store.lists.into, store.compiling,
                     [one.plain() for one in store.opened]])
    return told


class Which(Case):
    def test_is_staged(self):
        store = store_of("dup exit", "unless#2 lit#1 exit", ("dup unless#4 recurse exit exit", (1, 1)), "goto#0",
                         "+ + + + + + + + drop exit", "drop " * 8 + "exit", "lit#1 " * 8 + "exit", "lit#1 " * 9 + "exit")
        self.assertEqual([is_staged(word) for word in store], [True, False, True, True, False, True, True, False])
        self.assertIs(is_staged(store[0]), True)
        store = Store(16)
        store.defer((0, 0))
        self.assertIs(is_staged(store[0]), False)

    def test_kinds(self):
        system = system_of()
        for word in system:
            wanted = word.kind in ("plain", "quote") and word.effect is not None
            self.assertEqual(is_staged(word), wanted, word.name)
        self.assertIn("quote", [word.kind for word in system])
        self.assertIn("made", [word.kind for word in system])


class Bodies(Case):
    def test_in_ascending_order_in_the_staged_store(self):
        store = store_of("lit#1 lit#2 + drop lit#3 drop lit#4 drop here exit", "call#0 call#0 + exit")
        # Only the staged body of word 0 is small.
        told = staged(store)
        self.assertEqual([word.body for word in told], [ops("here exit"), ops("here here + exit")])

    def test_tails_come_behind_all_others(self):
        store = store_of("here unless#0 exit", "call#0 exit", "call#1 exit")
        # Word 1 is small as long as it ends in exit.
        self.assertEqual([word.body for word in staged(store)],
                         [ops("here unless#0 exit"), ops("jump#0"), ops("jump#0")])

    def test_recursion(self):
        store = store_of(("dup unless#4 recurse exit exit", (1, 1)))
        told = staged(store)[0]
        self.assertEqual((told.body, told.declared), (ops("dup unless#3 goto#0 exit"), (1, 1)))
        self.assertEqual((told.verdict.rise, told.verdict.frames), (1, 1))

    def test_what_stays(self):
        store = store_of("lit#1 drop exit", "unless#2 lit#1 exit", "lit#1 " * 9 + "lit#1 drop exit")
        store.memory.add_byte(7)
        store.define(ops("dup drop exit"), name="w", immediate=True)
        store.defer((0, 0), name="d", action=0)
        copy = store.copy()
        told = staged(store)
        self.assertEqual(store, copy)
        self.assertEqual(told.memory.all_bytes(), (10, 0, 7))
        self.assertEqual([word.body for word in told][1:3], [word.body for word in store][1:3])
        self.assertEqual(told[3].plain(), ("w", -1, "plain", True, ops("exit"), (1, 1), None, None, None, None))
        self.assertEqual(store[3].declared, None)
        self.assertEqual((told[4].plain(), told[2].declared), (store[4].plain(), None))
        told.memory.add_byte(1)
        self.assertEqual(len(store.memory), 3)

    def test_verdicts_are_made_anew(self):
        store = store_of("lit#0 throw exit", "call#0 unless#2 exit", "call#0 exit")
        told = staged(store)
        self.assertEqual((store[2].verdict.row, told[2].verdict.row), ((0,), ()))
        self.assertEqual(told[1].verdict.row, (0,))
        self.assertEqual((store[2].verdict.frames, told[2].verdict.frames), (2, 1))

    def test_verdicts_of_words_that_are_not_staged(self):
        store = store_of("lit#0 throw exit", "call#0 " + "lit#1 " * 9 + "exit", "call#1 exit", "call#0 perform exit")
        told = staged(store)
        self.assertEqual([word.verdict.row for word in store], [(0,)] * 4)
        self.assertEqual([word.verdict.row for word in told], [(), (), (), ()])
        self.assertEqual([is_staged(word) for word in told], [True, False, False, False])
        self.assertEqual([word.body for word in told][1:], [word.body for word in store][1:])

    def test_a_system_gives_a_system(self):
        system = system_of()
        copy = system.copy()
        told = staged(system)
        self.assertIsInstance(told, System)
        self.assertEqual(system, copy)
        self.assertEqual((told.lists, told.memory, told.compiling), (system.lists, system.memory, False))
        self.assertEqual([word.effect for word in told], [word.effect for word in system])
        for word, old in zip(told, system):
            before, after = list(old.plain()), list(word.plain())
            if is_staged(old):
                before[4:6] = after[4:6] = []
            self.assertEqual(before, after)
        number = system.number_of("fourth")
        self.assertEqual((told[number].body, told[number].declared), (ops("dup * dup * exit"), (1, 1)))
        number = system.number_of("choose")
        self.assertEqual(told[number].body, ops("unless#3 lit#3 exit lit#3 exit"))

    def test_what_else_a_system_has(self):
        session = Session(16)
        session.read(["new-list also : w 1 drop ; : open 1"])
        told = staged(session.system)
        self.assertEqual([one.plain() for one in told.opened], [one.plain() for one in session.system.opened])
        self.assertEqual((told.compiling, told.lists, told.caught), (True, session.system.lists, "1"))


class Runs(Case):
    def alike(self, one, two, number, stack, feed, **named):
        first = Machine(one.copy(), number, stack=stack, feed=feed, data=200, frames=200, **named)
        first.go(3000)
        if first.kind in ("done", "error", "asks"):
            other = Machine(two.copy(), number, stack=stack, feed=feed, data=200, frames=200, **named)
            other.go(3000)
            self.assertEqual(ending(first), ending(other), (one[number].body, two[number].body))
            self.assertLessEqual(other.steps, first.steps)
            if first.store.__class__ is System:
                self.assertEqual([word.name for word in first.store], [word.name for word in other.store])
        return first.kind

    def test_drawn_stores(self):
        luck = random.Random(21)
        kinds = {}
        for turn in range(60):
            store = drawn.drawn_store(luck, luck.choice((16, 24, 32))) if turn % 3 else reference.some_store(luck)
            told = staged(store)
            self.assertEqual([word.effect for word in told], [word.effect for word in store])
            for number, word in enumerate(store):
                if not is_staged(word):
                    self.assertEqual(told[number].plain(), word.plain())
                    continue
                for _ in range(3):
                    stack = [luck.choice((0, 1, -1, 2, 65)) for _ in range(word.verdict.ins + luck.randint(0, 2))]
                    feed = [luck.choice((0, 1, 1)) for _ in range(luck.randint(0, 5))]
                    kind = self.alike(store, told, number, stack, feed)
                    kinds[kind] = kinds.get(kind, 0) + 1
                    for one in (Inline(), Fold(), Thread(), Trim(), Tail()):
                        body = one(store, number, word.body)
                        if body != word.body:
                            self.alike(store, store.changed(number, body), number, stack, feed)
        self.assertEqual(set(kinds) & {"done", "error", "asks"}, {"done", "error", "asks"})

    def test_a_system(self):
        system = system_of()
        told = staged(system)
        for name, stack in (("sq", (5,)), ("fourth", (3,)), ("choose", (0,)), ("choose", (1,)), ("count", ()), ("bump", ()),
                            ("caught", (1, 2)), ("tail", (2,)), ("two", ()), ("lists", ()), ("mark", ()), ("down", (9,)),
                            ("make", (4,)), ("twice", (4,)), ("if", ()), ("begin", ())):
            number = system.number_of(name)
            for text in (["name"], []):
                one, two = system.copy(), told.copy()
                for each in (one, two):
                    session = Session(16)
                    session.system = each
                    session.system.source = session.system.source.__class__(text)
                kind = self.alike(one, two, number, stack, (), actions=full_actions())
                self.assertIn(kind, ("done", "error"))

    def test_settled_bodies_stay_as_they_are(self):
        luck = random.Random(22)
        one = Inline() + Fold() + Thread() + Trim()
        for _ in range(25):
            store = drawn.drawn_store(luck)
            fresh = store.copy()
            for number, word in enumerate(store):
                if is_staged(word):
                    body = settle(one, fresh, number, word.body)
                    self.assertEqual(settle(one, fresh, number, body), body)


class Saved(Case):
    def test_steps_saved(self):
        store = store_of("lit#1 drop exit", "call#0 call#0 here exit", "lit#5 throw exit", "ask exit", "goto#0")
        # call, lit, drop, exit twice, and here, exit; staged: here, exit.
        self.assertEqual(steps_saved(store, 1), 8)
        self.assertEqual(steps_saved(store, 0, 1, 2), 2)
        self.assertIsNone(steps_saved(store, 2))
        self.assertIsNone(steps_saved(store, 3))
        self.assertEqual(steps_saved(store, 3, feed=(7,)), 0)
        self.assertIsNone(steps_saved(store, 4))
        self.assertIsNone(steps_saved(store, 1, steps=9))
        self.assertEqual(steps_saved(store, 1, steps=10), 8)
        for number in (-1, 5, True, None):
            self.fails(NoWord, number, steps_saved, store, number)
        self.assertEqual(len(store.memory), 2)

    def test_steps_if_none_are_told(self):
        store = store_of("lit#3999 lit#-1 + dup 0= unless#1 drop here drop exit",
                         "lit#3999 lit#-1 + dup 0= unless#1 drop here drop here drop exit")
        self.assertEqual(steps_saved(store, 0), 0)
        self.assertIsNone(steps_saved(store, 1))

    def test_with_a_stack(self):
        store = store_of("dup drop swap swap + exit")
        self.assertEqual(steps_saved(store, 0, 4, 5), 4)
        self.assertIsNone(steps_saved(store, 0, 4))


if __name__ == "__main__":
    import unittest
    unittest.main()
