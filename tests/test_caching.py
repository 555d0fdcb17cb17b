"""Made code: its forms, its paper, its length, and the exact code of straight bodies."""

import random

from tests import drawn, judge, reference
from tests.helpers import Case, ops, store_of
from wordmint.caching import made
from wordmint.code import is_row
from wordmint.errors import BadRegisters, NotChecked, NoWord
from wordmint.forms import EFFECTS
from wordmint.session import Session
from wordmint.stores import Store

STEPS = "lit data token dup drop swap over rot".split()


class Errors(Case):
    def test_in_their_order(self):
        store = store_of("dup exit", "unless#2 lit#1 exit")
        for number in (-1, 2, True, None):
            self.fails(NoWord, number, made, store, number, 1)
        self.fails(NotChecked, 1, made, store, 1, 1)
        for registers in (1, 9, 0, -1, True, None, "4", (4,)):
            self.fails(BadRegisters, registers, made, store, 0, registers)
        for registers in range(2, 9):
            rows, paper = made(store, 0, registers)
            self.assertEqual((rows.__class__, paper.__class__), (tuple, tuple))


class Good(Case):
    def good(self, store, number, registers):
        """The code of a word, which the plain judge lets by."""
        word = store[number]
        rows, paper = made(store, number, registers)
        verdict = judge.Judge(store, number, rows, paper, registers).verdict()
        self.assertIsNone(verdict, (word.body, rows, paper))
        self.assertLessEqual(len(rows), 12 * len(word.body) + 12)
        for row in rows:
            self.assertTrue(is_row(row, registers, len(rows)), row)
        return rows

    def test_drawn_words(self):
        luck = random.Random(31)
        for turn in range(60):
            store = drawn.drawn_store(luck, luck.choice((16, 24, 32))) if turn % 3 else reference.some_store(luck)
            for number, word in enumerate(store):
                if word.effect is not None:
                    for registers in range(2, 9):
                        self.good(store, number, registers)

    def test_every_instruction(self):
        store = store_of("exit", "goto#0", "ask throw exit")
        store.defer((1, 2))
        for op, effect in EFFECTS.items():
            if op not in ("lit", "data", "token", "goto", "unless", "exit", "local", "set", "r>", "r@", ">r", "is"):
                store.define(((op, 0), ("exit", 0)))
        for text in ("lit#5 exit", "data#2 exit", "token#0 exit", "goto#1 exit", "unless#1 exit", ">r r@ r> exit", "is#3 exit",
                     "locals#3 local#2 set#0 local#1 exit", "locals#8 exit", "run#2,1 exit", "catch#3 exit", "call#0 exit",
                     "jump#0", "call#1 exit", "jump#1", "call#3 exit", "jump#3", "here call#1 exit", "goto#0",
                     "unless#2 goto#2 exit", "here drop unless#1 exit", "lit#1 lit#2 lit#3 rot rot exit", "rot rot rot exit",
                     "lit#1 drop unless#0 here unless#2 exit"):
            store.define(ops(text))
        for body, declared in (("dup unless#4 recurse exit exit", (1, 1)), ("recurse exit", (2, 1)), ("here drop recurse here exit", (0, 1)),
                               ("locals#1 local#0 unless#5 local#0 recurse exit", (1, 0)), ("drop recurse exit", (8, 1)),
                               ("exit", (8, 8)), ("+ exit", (8, 7))):
            store.define(ops(body), declared=declared)
        count = 0
        for number, word in enumerate(store):
            if word.effect is not None:
                count += 1
                for registers in range(2, 9):
                    self.good(store, number, registers)
        self.assertGreater(count, 100)

    def test_kernel_words_and_makers(self):
        session = Session(16)
        session.read([": constant create , [: @ ;] behave ; 5 constant five : w five five + . ; marker m : x 1 ;"])
        system = session.system
        for number, word in enumerate(system):
            if word.effect is None:
                self.fails(NotChecked, number, made, system, number, 4)
            else:
                self.good(system, number, 4)

    def test_a_deferred_word(self):
        store = Store(16)
        store.defer((2, 5))
        self.assertEqual(made(store, 0, 4), ((("plain", "deferred", 0), ("exit",)), ((0, ()), (1, ()))))

    def test_unreachable_places(self):
        store = store_of("exit", "goto#0", "goto#3 dup drop exit", "call#1 dup exit", "here unless#4 exit swap exit")
        for number in range(len(store)):
            rows = self.good(store, number, 2)
            self.assertLessEqual(len(rows), 4)
        # Behind a call or a recurse that does not return comes a place to which only a goto leads.
        number = store.define(ops("here unless#4 call#1 exit here drop exit"))
        self.assertEqual([row[0] for row in self.good(store, number, 2)], ["do", "unless", "call", "do", "exit"])
        number = store.define(ops("here unless#4 recurse exit here drop goto#0"), declared=(0, 0))
        self.assertEqual([row[0] for row in self.good(store, number, 2)], ["do", "unless", "plain", "do", "goto"])

    def test_no_row_too_many(self):
        for text, registers, told in (
                ("here unless#0 exit", 2, "do unless exit"), ("+ + exit", 2, "fill fill do fill do spill exit"),
                (">r r@ r> + . exit", 2, "fill keep look back do do exit"), ("dup throw exit", 2, "fill throw spill exit"),
                ("locals#2 local#1 set#0 exit", 2, "plain local set exit"), ("lit#0 throw exit", 2, "throw exit"),
                ("goto#2 exit lit#5 goto#1", 2, "goto exit spill goto"),
                ("here unless#4 lit#1 drop exit", 2, "do unless goto exit"),
                ("rot exit", 2, "plain exit"), ("rot exit", 3, "fill fill fill spill spill spill exit")):
            store = store_of(text)
            self.assertEqual((text, " ".join([row[0] for row in self.good(store, 0, registers)])), (text, told))

    def test_the_store_stays(self):
        store = store_of("dup unless#0 exit")
        copy = store.copy()
        made(store, 0, 4)
        self.assertEqual(store, copy)

    def test_bounds(self):
        store = Store(16)
        for text in ("lit#1 " * 3499 + "drop " * 3499 + "exit", "lit#1 " * 2000 + "here drop " * 2000 + "exit",
                     "here unless#2 " * 1 + "here drop " * 3000 + "exit", "lit#1 dup drop drop " * 1700 + "exit",
                     "here here rot rot rot drop drop " * 900 + "exit", "lit#1 " * 3000 + "c, " * 3000 + "exit"):
            number = store.define(ops(text))
            if store[number].effect is not None:
                for registers in (2, 8):
                    rows, paper = made(store, number, registers)
                    self.assertLessEqual(len(rows), 12 * 7000)
                    self.assertEqual(len(rows), len(paper))


class Straight(Case):
    def counts(self, body):
        """n, l, a and d of a straight body."""
        least, acts, left, depth = 0, 0, 0, 0
        for op, _ in body:
            takes, leaves = EFFECTS[op]
            least = max(least, takes - depth)
            depth += leaves - takes
            if op not in STEPS and op != "exit":
                acts += 1
                left += leaves
        return least, left, acts, depth

    def exact(self, store, number, registers):
        body = store[number].body
        least, left, acts, depth = self.counts(body)
        rows, paper = made(store, number, registers)
        self.assertIsNone(judge.Judge(store, number, rows, paper, registers).verdict())
        if least + left <= registers:
            told = [row[0] for row in rows]
            self.assertEqual([told.count(op) for op in ("fill", "do", "spill", "exit")], [least, acts, least + depth, 1], body)
            self.assertEqual(len(told), 2 * least + acts + depth + 1, body)
            return 1
        return 0

    def test_straight_bodies(self):
        luck = random.Random(41)
        many = 0
        for _ in range(700):
            store = Store(16)
            store.define(drawn.straight_body(luck, luck.randint(0, 4), luck.randint(0, 8)))
            if store[0].effect is not None:
                for registers in range(2, 9):
                    many += self.exact(store, 0, registers)
        self.assertGreater(many, 1000)

    def test_the_bounds_of_the_registers(self):
        for text, least in (("rot exit", 3), ("here here + here + exit", 5), ("* . exit", 3), ("swap exit", 2), ("exit", 2),
                            ("lit#1 lit#2 lit#3 lit#4 ! ! exit", 2), ("+ + + exit", 7), ("lit#9 rot rot exit", 2)):
            store = store_of(text)
            for registers in range(2, 9):
                self.assertEqual(self.exact(store, 0, registers), 1 if registers >= least else 0, (text, registers))

    def test_a_declared_effect_that_takes_more(self):
        store = store_of(("+ exit", (5, 4)))
        self.assertEqual(self.exact(store, 0, 3), 1)

    def test_the_rows(self):
        store = store_of("dup * lit#3 + exit")
        rows, paper = made(store, 0, 4)
        self.assertEqual([row[0] for row in rows], ["fill", "do", "do", "spill", "exit"])
        self.assertEqual(paper[0], (0, ()))


class TheJudge(Case):
    """The plain judge of the tests finds what is wrong."""

    def test_changed_code_is_bad(self):
        store = store_of("dup * unless#5 here exit lit#1 exit")
        rows, paper = made(store, 0, 4)
        self.assertIsNone(judge.Judge(store, 0, rows, paper, 4).verdict())
        for at in range(len(rows)):
            self.assertIsNotNone(judge.Judge(store, 0, rows[:at] + rows[at + 1:], paper[:at] + paper[at + 1:], 4).verdict())
            wrong = paper[:at] + ((paper[at][0], paper[at][1] + (("lit", 1),)),) + paper[at + 1:]
            self.assertIsNotNone(judge.Judge(store, 0, rows, wrong, 4).verdict())


if __name__ == "__main__":
    import unittest
    unittest.main()
