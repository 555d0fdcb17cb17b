"""Forms of bodies, effects of ops, and words."""

import unittest

from tests.helpers import Case, ops
from wordmint.effects import check
from wordmint.errors import BadBody
from wordmint.forms import BUILDING, EFFECTS, Word, both, check_body, fits, landings

BUILDING_TEXT = """
    word parse pad@ pad, lookup ' compile literal address local, state [ ] : ; [: ;] self, run, catch, is, to, {
    postpone immediate create behave defer marker <mark <goto <unless goto> unless> >land new-list also into previous
"""
EFFECT_TEXT = """
    0,1: lit data token r> r@ here cell ask local word ' state <mark goto> unless> new-list
    0,2: pad, lookup
    0,0: goto exit [ ] : ; [: ;] self, run, catch, is, to, { postpone immediate create defer marker previous
    1,0: drop >r allot , c, . emit set unless is throw compile literal address local, behave <goto <unless >land
    1,0: also into
    1,1: invert 0= @ c@ parse pad@
    1,2: dup
    2,0: ! c! type
    2,1: + - * / mod and or xor = < u<
    2,2: swap
    2,3: over
    3,3: rot
"""
NOT_INTEGERS = (True, False, None, "0", (0,), [0], 0.0)
EXIT = ("exit", 0)


class Effects(Case):
    def test_building(self):
        self.assertEqual(BUILDING, tuple(BUILDING_TEXT.split()))

    def test_table(self):
        wanted = {}
        for line in EFFECT_TEXT.split("\n"):
            pair, colon, words = line.strip().partition(": ")
            for op in words.split():
                wanted[op] = (int(pair[0]), int(pair[2]))
        self.assertEqual(EFFECTS, wanted)

    def test_building_acts_have_effects(self):
        self.assertEqual([op for op in BUILDING if op not in EFFECTS], [])

    def test_ops_whose_effect_hangs_on_more(self):
        for op in "locals call jump recurse run catch perform deferred forget".split():
            self.assertNotIn(op, EFFECTS)

    def test_fits(self):
        self.assertIs(fits((1, 2), (1, 2)), True)
        self.assertIs(fits((1, 2), (3, 4)), True)
        self.assertIs(fits((0, 0), (8, 8)), True)
        self.assertIs(fits((3, 4), (1, 2)), False)
        self.assertIs(fits((1, 2), (1, 1)), False)
        self.assertIs(fits((1, 2), (2, 2)), False)
        self.assertIs(fits((2, 0), (2, 0)), True)
        self.assertIs(fits((2, 0), (3, 1)), True)
        self.assertIs(fits(None, (0, 0)), False)

    def test_both(self):
        self.assertEqual(both((0, 0), (0, 0)), (0, 0))
        self.assertEqual(both((1, 2), (2, 1)), (1, 1))
        self.assertEqual(both((0, 1), (2, 1)), (1, 1))
        self.assertEqual(both((2, 0), (3, 5)), (5, 5))
        self.assertEqual(both((1, 4), (2, 0)), (1, 2))
        self.assertEqual(both((0, 3), (1, 1)), (0, 3))

    def test_landings(self):
        self.assertEqual(landings(ops("unless#3 goto#0 unless#3 exit")), (0, 3))
        self.assertEqual(landings(ops("lit#5 local#1 exit")), ())
        self.assertEqual(landings(ops("goto#2 exit goto#1")), (1, 2))


class Bodies(Case):
    def good(self, body, number=0, width=16):
        self.assertIsNone(check_body(width, body, number))

    def bad(self, place, body, number=0, width=16):
        self.fails(BadBody, place, check_body, width, body, number)

    def around(self, op, good, bad, number=0, width=16):
        """Looks at an instruction with good and bad arguments, in the middle of a body."""
        for arg in good:
            self.good((("dup", 0), (op, arg), EXIT), number, width)
        for arg in bad + NOT_INTEGERS:
            self.bad(1, (("dup", 0), (op, arg), EXIT), number, width)

    def test_numbers(self):
        for width, half in ((16, 32768), (24, 8388608), (32, 2147483648)):
            self.around("lit", (0, 1, -1, half - 1, -half), (half, -half - 1), width=width)

    def test_addresses(self):
        self.around("data", (0, 1, 2048), (-1, 2049))

    def test_words(self):
        for op in ("token", "call", "is", "jump"):
            self.around(op, (), (0, -1, 1), number=0)
            self.around(op, (0, 1, 4), (5, 6, -1), number=5)

    def test_places(self):
        for op in ("goto", "unless"):
            self.around(op, (0, 1, 2), (3, -1))

    def test_run_and_catch(self):
        self.around("run", ((0, 0), (8, 8), (0, 8), (8, 0)),
                    ((9, 0), (0, 9), (-1, 0), (0, -1), (1,), (1, 1, 1), [1, 1], (True, 0), (0, False), 1))
        self.around("catch", (0, 8), (9, -1, (1, 1)))

    def test_locals(self):
        for count in range(1, 9):
            for op in ("local", "set"):
                for place in range(count):
                    self.good((("locals", count), (op, place), EXIT))
                for place in (-1, count) + NOT_INTEGERS:
                    self.bad(1, (("locals", count), (op, place), EXIT))
        for count in (0, 9, -1) + NOT_INTEGERS:
            self.bad(0, (("locals", count), EXIT))
        for op in ("local", "set"):
            self.bad(0, ((op, 0), EXIT))
            self.bad(1, (("dup", 0), (op, 0), EXIT))
        self.bad(1, (("dup", 0), ("locals", 1), EXIT))
        self.bad(1, (("locals", 1), ("locals", 1), EXIT))

    def test_ops_without_an_argument(self):
        plain = """dup drop swap over rot >r r> r@ + - * / mod and or xor invert = < u< 0= @ ! c@ c! here allot , c,
                   cell . emit type ask exit recurse throw perform"""
        for op in plain.split() + BUILDING_TEXT.split():
            self.around(op, (0,), (1, -1))

    def test_ops_that_are_none(self):
        for op in ("deferred", "forget", "", "nope", "DUP", "dup ", "base", "to", ("dup",), ["dup"], None, 0, True):
            self.bad(0, ((op, 0), EXIT))
            self.bad(1, (("dup", 0), (op, 0), EXIT))

    def test_things_that_are_no_pairs(self):
        for thing in ("dup", None, 0, ("dup",), ("dup", 0, 0), ["dup", 0], (), {}, "ab"):
            self.bad(1, (("dup", 0), thing, EXIT))
            self.bad(0, (thing, EXIT))
            self.bad(1, (("dup", 0), thing))

    def test_things_that_are_no_bodies(self):
        for thing in ((), [EXIT], None, 0, "exit", {}, []):
            self.bad(0, thing)

    def test_last_instruction(self):
        self.good((EXIT,))
        self.good((("goto", 0),))
        self.good((("jump", 0),), 1)
        for instruction in (("dup", 0), ("unless", 0), ("throw", 0), ("recurse", 0), ("call", 0), ("perform", 0)):
            self.bad(2, (EXIT, EXIT, instruction), 1)
            self.bad(0, (instruction,), 1)
        self.bad(0, (("locals", 1),))

    def test_first_wrong_place_counts(self):
        body = (("dup", 0), ("lit", 40000), EXIT, ("nope", 0), ("dup", 0))
        self.bad(1, body)
        self.bad(3, body[:1] + (EXIT,) + body[2:])
        self.bad(4, body[:1] + (EXIT, EXIT, EXIT) + body[4:])

    def test_lengths(self):
        self.good((("dup", 0),) * 6999 + (EXIT,))
        self.bad(7000, (("dup", 0),) * 7000 + (EXIT,))
        self.bad(7000, (None,) * 7001)
        self.bad(0, (None,) * 7000)
        self.bad(6999, (("dup", 0),) * 7000)
        self.good((("goto", 6999),) * 6999 + (EXIT,))


class Words(Case):
    def test_attributes(self):
        body = ops("lit#1 exit")
        verdict = check([], body)
        word = Word("one", 3, "plain", True, body, (0, 1), verdict)
        self.assertEqual(vars(word), {
            "name": "one", "home": 3, "kind": "plain", "immediate": True, "body": body, "declared": (0, 1),
            "verdict": verdict, "address": None, "behaviour": None, "action": None, "keeps": None})
        self.assertEqual(word.plain(), ("one", 3, "plain", True, body, (0, 1), None, None, None, None))
        self.assertEqual(word.effect, (0, 1))

    def test_attributes_by_keyword(self):
        body = ops("exit")
        word = Word("", -1, "made", False, body, None, check([], body),
                    address=4, behaviour=2, action=7, keeps=(2, (1, 0), 1, (10, 0), (None,)))
        self.assertEqual((word.address, word.behaviour, word.action), (4, 2, 7))
        self.assertEqual(word.plain(), ("", -1, "made", False, body, None, 4, 2, 7, (2, (1, 0), 1, (10, 0), (None,))))
        self.assertRaises(TypeError, Word, "", -1, "made", False, body, None, None, 4)

    def test_a_refused_word_has_no_effect(self):
        body = ops("perform exit")
        self.assertIsNone(Word("", -1, "plain", False, body, None, check([], body)).effect)


if __name__ == "__main__":
    unittest.main()
