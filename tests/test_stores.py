"""Stores: words that are added, their verdicts, deferred words, bodies that are exchanged."""

import unittest

from tests.helpers import Case, ops, store_of
from wordmint.effects import Refusal, Summary, check
from wordmint.errors import BadBody, BadEffect, BadName, BadWidth, NoWord, TooMany, Unfit
from wordmint.memory import Memory
from wordmint.stores import Store

GOOD_NAMES = ("a", "x" * 16, "!", "$1", "(", "~", "\\", "\"", "{")
BAD_NAMES = ("x" * 17, " ", "a b", "a ", "%", "a%", "\n", "\t", "\x7f", "\xe9", None, 0, ("a",), ["a"], True)
BAD_EFFECTS = ((9, 0), (0, 9), (-1, 0), (0, -1), (True, 0), (0, False), [1, 1], (1,), (1, 1, 1), (), "11", 0, True,
               (None, 1), ("1", "1"))
NO_WORDS = (-1, 3, 400, True, False, None, "0", (0,), [0])
EXIT = ops("exit")


class Stores(Case):
    def test_new(self):
        for width in (16, 24, 32):
            store = Store(width)
            self.assertEqual((store.width, store.words, len(store)), (width, [], 0))
            self.assertEqual(store.memory, Memory(width))
        for width in (0, 17, True, None, "16"):
            self.fails(BadWidth, width, Store, width)

    def test_reading(self):
        store = store_of("exit", "dup exit", "drop exit")
        self.assertEqual(len(store), 3)
        self.assertEqual([word.body for word in store], [ops("exit"), ops("dup exit"), ops("drop exit")])
        self.assertIs(store[1], store.words[1])
        for number in NO_WORDS:
            self.fails(NoWord, number, store.__getitem__, number)

    def test_equality(self):
        self.assertEqual(Store(16), Store(16))
        self.assertNotEqual(Store(16), Store(24))
        self.assertNotEqual(Store(16), None)
        self.assertEqual(store_of("dup exit"), store_of("dup exit"))
        self.assertNotEqual(store_of("dup exit"), store_of("drop exit"))
        self.assertNotEqual(store_of("exit"), store_of("exit", "exit"))
        self.assertNotEqual(store_of("exit"), store_of(("exit", (0, 0))))
        one, other = store_of("exit"), store_of("exit")
        one.memory[0] = 16
        self.assertNotEqual(one, other)
        other.memory[0] = 16
        self.assertEqual(one, other)
        one.define(EXIT, name="a")
        other.define(EXIT, name="b")
        self.assertNotEqual(one, other)
        one, other = store_of("exit"), store_of("exit")
        one.define(EXIT, immediate=True)
        other.define(EXIT)
        self.assertNotEqual(one, other)

    def test_deferred_words_are_compared_with_their_actions(self):
        one, other = store_of("exit"), store_of("exit")
        one.defer((0, 0))
        other.defer((0, 0))
        self.assertEqual(one, other)
        one.act(1, 0)
        self.assertNotEqual(one, other)
        other.act(1, 0)
        self.assertEqual(one, other)

    def test_copy(self):
        store = store_of("exit")
        store.defer((0, 0))
        other = store.copy()
        self.assertEqual(store, other)
        other.act(1, 0)
        other.memory[0] = 2
        other.define(EXIT)
        self.assertEqual((len(store), store[1].action, store.memory[0]), (2, None, 10))
        self.assertEqual((len(other), other[1].action, other.memory[0]), (3, 0, 2))


class Defined(Case):
    def test_word(self):
        store = Store(16)
        self.assertEqual(store.define(EXIT), 0)
        self.assertEqual(store.define(ops("dup exit"), name="twice", declared=(1, 2), immediate=True), 1)
        word = store[1]
        self.assertEqual(word.plain(), ("twice", -1, "plain", True, ops("dup exit"), (1, 2), None, None, None, None))
        self.assertEqual(word.verdict, Summary(1, 2, 1, 1, ()))
        self.assertEqual(store[0].plain(), ("", -1, "plain", False, EXIT, None, None, None, None, None))

    def test_two_words_may_have_one_name(self):
        store = Store(16)
        store.define(EXIT, name="a")
        store.define(EXIT, name="a")
        self.assertEqual([word.name for word in store], ["a", "a"])

    def test_the_verdict_is_kept(self):
        store = store_of("perform exit", "call#0 exit", "lit#1 exit", "call#2 exit")
        self.assertEqual(store[0].verdict, Refusal("free", 0, (), None, None, 0))
        self.assertEqual(store[1].verdict, Refusal("callee", 0, (), None, 0, 0))
        self.assertEqual(store[3].verdict, check(store.words[:3], store[3].body))
        self.assertEqual([word.effect for word in store], [None, None, (0, 1), (0, 1)])

    def test_declared_effects_near_the_found_one(self):
        store = store_of("dup exit", ("dup exit", (1, 2)), ("dup exit", (2, 3)), ("dup exit", (0, 1)),
                         ("dup exit", (1, 1)), ("dup exit", (2, 2)), ("dup exit", (8, 8)))
        self.assertEqual([word.effect for word in store], [(1, 2), (1, 2), (2, 3), None, None, None, None])
        self.assertEqual([getattr(word.verdict, "kind", "") for word in store],
                         ["", "", "", "under", "out", "out", "out"])

    def test_names(self):
        for name in GOOD_NAMES + ("",):
            store = Store(16)
            store.define(EXIT, name=name)
            store.defer((0, 0), name=name)
            self.assertEqual([word.name for word in store], [name, name])
        for name in BAD_NAMES:
            store = Store(16)
            self.fails(BadName, name, store.define, EXIT, name=name)
            self.fails(BadName, name, store.defer, (0, 0), name=name)
            self.assertEqual(len(store), 0)

    def test_effects(self):
        for declared in BAD_EFFECTS:
            store = Store(16)
            self.fails(BadEffect, declared, store.define, EXIT, declared=declared)
            self.fails(BadEffect, declared, store.defer, declared)
            self.assertEqual(len(store), 0)
        self.fails(BadEffect, None, Store(16).defer, None)
        Store(16).define(EXIT, declared=(8, 8))

    def test_bodies(self):
        store = store_of("exit")
        self.fails(BadBody, 0, store.define, [("exit", 0)])
        self.fails(BadBody, 0, store.define, ())
        self.fails(BadBody, 1, store.define, ops("dup call#1 exit"))
        self.fails(BadBody, 0, store.define, ops("deferred exit"))
        self.fails(BadBody, 0, store.define, ops("forget exit"))
        self.fails(BadBody, 0, store.define, ops("lit#32768 exit"))
        Store(24).define(ops("lit#32768 exit"))
        self.assertEqual(len(store), 1)

    def test_four_hundred_words(self):
        store = Store(16)
        for number in range(400):
            self.assertEqual(store.define(EXIT), number)
        self.fails(TooMany, 400, store.define, EXIT)
        self.fails(TooMany, 400, store.defer, (0, 0))
        self.assertEqual(len(store), 400)

    def test_errors_in_order(self):
        full = store_of(*["exit"] * 400)
        self.fails(TooMany, 400, full.define, None, name=None, declared=1)
        self.fails(TooMany, 400, full.defer, 1, name=None, action=-1)
        store = store_of("exit")
        self.fails(BadName, None, store.define, None, name=None, declared=1)
        self.fails(BadEffect, 1, store.define, None, declared=1)
        self.fails(BadBody, 0, store.define, None, declared=(0, 0))
        self.fails(BadName, None, store.defer, None, name=None, action=9)
        self.fails(BadEffect, None, store.defer, None, action=9)
        self.fails(NoWord, 9, store.defer, (1, 0), action=9)
        self.fails(Unfit, 0, store.defer, (1, 0), action=0)
        self.assertEqual(len(store), 1)


class Deferred(Case):
    def test_word(self):
        store = store_of("exit")
        self.assertEqual(store.defer((2, 2), name="later", action=0), 1)
        self.assertEqual(store[1].plain(),
                         ("later", -1, "deferred", False, ops("deferred exit"), (2, 2), None, None, 0, None))
        self.assertEqual(store[1].verdict, Summary(2, 2, None, None, ()))
        self.assertEqual(store.defer((0, 1)), 2)
        self.assertIsNone(store[2].action)

    def test_actions_must_be_there(self):
        store = store_of("exit", "exit")
        store.defer((0, 0))
        for action in NO_WORDS[:1] + NO_WORDS[2:5] + NO_WORDS[6:]:
            self.fails(NoWord, action, store.defer, (0, 0), action=action)
            self.fails(NoWord, action, store.act, 2, action)
        self.fails(NoWord, 3, store.defer, (0, 0), action=3)
        self.assertEqual((len(store), store[2].action), (3, None))

    def test_actions_must_fit(self):
        store = store_of("dup exit", "perform exit", "drop exit", ("dup exit", (3, 4)))
        number = store.defer((2, 3))
        for action in (1, 2, 3):
            self.fails(Unfit, action, store.defer, (2, 3), action=action)
            self.fails(Unfit, action, store.act, number, action)
        store.act(number, 0)
        self.assertEqual(store[number].action, 0)
        self.fails(Unfit, 1, store.act, number, 1)
        self.assertEqual(store[number].action, 0)
        store.act(number, None)
        self.assertIsNone(store[number].action)
        store.act(number, number)
        self.assertEqual(store[number].action, number)
        self.assertEqual(store[number].verdict, Summary(2, 3, None, None, ()))

    def test_errors_of_act_in_order(self):
        store = store_of("exit", "dup exit")
        store.defer((0, 0))
        for number in NO_WORDS:
            self.fails(NoWord, number, store.act, number, None)
            self.fails(NoWord, number, store.act, number, 99)
        self.fails(Unfit, 0, store.act, 0, 99)
        self.fails(Unfit, 0, store.act, 0, None)
        self.fails(NoWord, 99, store.act, 2, 99)
        self.fails(Unfit, 1, store.act, 2, 1)

    def test_words_that_are_held_stay(self):
        store = store_of("exit")
        store.defer((0, 0))
        word = store[1]
        store.act(1, 0)
        self.assertIsNone(word.action)
        self.assertEqual(store[1].action, 0)


class Changed(Case):
    def test_body(self):
        store = store_of("dup exit", "call#0 call#0 exit")
        other = store.changed(0, ops("lit#0 over swap drop exit"))
        self.assertEqual(other[0].body, ops("lit#0 over swap drop exit"))
        self.assertEqual((other[0].declared, other[0].effect), ((1, 2), (1, 2)))
        self.assertEqual(store[0].body, ops("dup exit"))
        self.assertIsNone(store[0].declared)

    def test_all_else_stays(self):
        store = Store(24)
        store.define(ops("dup exit"), name="a", declared=(2, 3), immediate=True)
        store.defer((0, 0), name="b", action=None)
        store.memory.add_byte(7)
        other = store.changed(0, ops("over exit"))
        self.assertEqual(other[0].plain(), ("a", -1, "plain", True, ops("over exit"), (2, 3), None, None, None, None))
        self.assertEqual(other[1].plain(), store[1].plain())
        self.assertEqual((other.width, other.memory), (24, store.memory))
        other.memory.add_byte(8)
        self.assertEqual(len(store.memory), 4)

    def test_verdicts_are_made_anew(self):
        store = store_of("dup exit", "call#0 exit", "dup exit")
        self.assertEqual((store[1].verdict.rise, store[1].verdict.row), (1, ()))
        other = store.changed(0, ops("lit#0 throw dup dup lit#5 drop drop exit"))
        self.assertEqual((other[1].verdict.rise, other[1].verdict.row), (3, (0,)))
        self.assertEqual(other[2].verdict, store[2].verdict)
        self.assertEqual((store[1].verdict.rise, store[1].verdict.row), (1, ()))
        long = store.changed(0, ops("lit#0 throw " * 1000 + "dup exit"))
        later = long.changed(2, ops("call#0 exit"))
        self.assertEqual(later[2].effect, (1, 2))
        twice = store_of("dup exit", "call#0 call#0 exit", "call#1 exit").changed(0, long[0].body)
        self.assertEqual([twice[1].verdict.kind, twice[2].verdict.kind], ["long", "callee"])

    def test_a_word_may_come_to_call_itself(self):
        store = store_of("throw exit")
        other = store.changed(0, ops("unless#2 exit lit#0 recurse exit"))
        self.assertEqual(other[0].effect, (1, 0))

    def test_errors_in_order(self):
        store = store_of("dup exit", "perform exit", "drop " * 9 + "exit", "lit#1 " * 9 + "exit")
        store.defer((0, 0))
        for number in (-1, 5, True, None, "0"):
            self.fails(NoWord, number, store.changed, number, None)
        for number in (1, 2, 3, 4):
            self.fails(Unfit, number, store.changed, number, None)
        self.fails(BadBody, 0, store.changed, 0, None)
        self.fails(BadBody, 1, store.changed, 0, ops("dup call#0 exit"))
        self.fails(Unfit, 0, store.changed, 0, ops("drop exit"))
        self.fails(Unfit, 0, store.changed, 0, ops("perform exit"))
        self.assertEqual(store, store_of_the_same())

    def test_bounds_of_the_effect(self):
        store = store_of("drop " * 8 + "exit", "lit#1 " * 8 + "exit", "locals#8 local#0 exit")
        self.assertEqual(store.changed(0, ops("locals#8 exit"))[0].effect, (8, 0))
        self.assertEqual(store.changed(1, ops("lit#2 " * 8 + "exit"))[1].effect, (0, 8))


def store_of_the_same():
    """The store of the test of errors, made once more."""
    store = store_of("dup exit", "perform exit", "drop " * 9 + "exit", "lit#1 " * 9 + "exit")
    store.defer((0, 0))
    return store


if __name__ == "__main__":
    unittest.main()
