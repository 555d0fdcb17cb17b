"""The rows of code: their forms, layout steps, and what rows take and give."""

from tests.helpers import Case, ops
from wordmint.code import after_steps, gives, is_row, is_source, takes
from wordmint.forms import BUILDING, EFFECTS

REG, LIT = ("reg", 0), ("lit", 5)
NO_INTEGERS = (True, False, None, "0", (0,), 1.0)
DO_OPS = """+ - * / mod and or xor = < u< invert 0= @ ! c@ c! here allot , c, cell . emit type ask""".split()
PLAIN = """dup drop swap over rot >r r> r@ + - * / mod and or xor invert = < u< 0= @ ! c@ c! here allot , c, cell . emit type
ask recurse throw perform deferred forget""".split()
LONE = {"exit": ("exit",)}


class Sources(Case):
    def test_sources(self):
        for source in (("reg", 0), ("reg", 3), ("lit", 0), ("lit", -(10 ** 39)), ("lit", 10 ** 39), ("data", 0),
                       ("data", 2048), ("token", 0), ("token", 399)):
            self.assertIs(is_source(source, 4), True, source)
        for source in (("reg", 4), ("reg", -1), ("data", -1), ("data", 2049), ("token", -1), ("token", 400), ("lit",), (),
                       ("lit", 5, 0), ["lit", 5], ("dup", 0), (["lit"], 5), (5, "lit"), None, "lit", 5, ("local", 0)):
            self.assertIs(is_source(source, 4), False, source)
        for thing in NO_INTEGERS:
            for op in ("reg", "lit", "data", "token"):
                self.assertIs(is_source((op, thing), 4), False)
        self.assertIs(is_source(("reg", 7), 8), True)
        self.assertIs(is_source(("reg", 2), 2), False)


class Rows(Case):
    def good(self, *rows, registers=4, count=10):
        for row in rows:
            self.assertIs(is_row(row, registers, count), True, row)

    def bad(self, *rows, registers=4, count=10):
        for row in rows:
            self.assertIs(is_row(row, registers, count), False, row)

    def test_spill_fill_put(self):
        self.good(("spill", REG), ("spill", LIT), ("spill", ("token", 399)), ("fill", 0), ("fill", 3), ("put", 3, LIT),
                  ("put", 0, REG))
        self.bad(("spill", ("reg", 4)), ("spill", 5), ("spill",), ("spill", REG, REG), ("fill", 4), ("fill", -1),
                 ("fill", REG), ("fill",), ("put", 4, LIT), ("put", LIT, 3), ("put", 3), ("put", 3, ["lit", 5]))
        for thing in NO_INTEGERS:
            self.bad(("fill", thing), ("put", thing, LIT))

    def test_do(self):
        for op in DO_OPS + [op for op in BUILDING if op not in ("pad,", "lookup")]:
            count, leaves = EFFECTS[op]
            sources = (REG, LIT)[:count]
            right, wrong = (3, -1) if leaves else (-1, 0)
            self.good(("do", op, sources, right))
            if leaves:
                self.good(("do", op, sources, 0))
            self.bad(("do", op, sources, wrong), ("do", op, sources + (REG,), right), ("do", op, list(sources), right),
                     ("do", op, sources), ("do", op, sources, 4), ("do", op, sources, -2), ("do", op, 0, right))
            if count:
                self.bad(("do", op, sources[1:], right), ("do", op, (("reg", 4),) * count, right))
            for thing in NO_INTEGERS:
                self.bad(("do", op, sources, thing))
        for op in ("pad,", "lookup", "dup", "drop", "swap", "lit", "throw", ">r", "r>", "exit", "call", "forget", "is", "run",
                   "perform", "recurse", "unless", "local", "", None, 5, ["+"], ("+",)):
            for count in range(3):
                for slot in (-1, 0):
                    self.bad(("do", op, (REG,) * count, slot))

    def test_throw_and_ways(self):
        self.good(("throw", REG), ("unless", LIT, 0), ("unless", REG, 9), ("goto", 0), ("goto", 9), ("call", 0), ("call", 399),
                  ("jump", 0), ("jump", 399), ("exit",))
        self.bad(("throw",), ("throw", 5), ("unless", LIT, 10), ("unless", LIT, -1), ("unless", 5, 5), ("unless", LIT),
                 ("goto", 10), ("goto", -1), ("goto",), ("goto", 0, 0), ("call", 400), ("call", -1), ("call",), ("jump", 400),
                 ("jump", -1), ("exit", 0))
        self.bad(("goto", 0), count=0)
        for thing in NO_INTEGERS:
            self.bad(("unless", LIT, thing), ("goto", thing), ("call", thing), ("jump", thing))

    def test_own_items_and_locals(self):
        self.good(("keep", REG), ("back", 3), ("look", 0), ("locals", (LIT,)), ("locals", (REG,) * 8), ("local", 0, 0),
                  ("local", 7, 3), ("set", 7, LIT), ("set", 0, REG))
        self.bad(("keep", 0), ("back", 4), ("back", REG), ("look", -1), ("look",), ("locals", ()), ("locals", (REG,) * 9),
                 ("locals", [REG]), ("locals", (REG, 5)), ("locals", 3), ("local", 8, 0), ("local", -1, 0), ("local", 0, 4),
                 ("local", 0), ("set", 8, LIT), ("set", LIT, 0), ("set", 0, 5), ("set", 0))
        for thing in NO_INTEGERS:
            self.bad(("back", thing), ("look", thing), ("local", thing, 0), ("local", 0, thing), ("set", thing, LIT))

    def test_plain(self):
        for op in PLAIN + list(BUILDING):
            self.good(("plain", op, 0))
            self.bad(("plain", op, 1), ("plain", op), ("plain", op, 0, 0))
            for thing in NO_INTEGERS:
                self.bad(("plain", op, thing))
        bounds = {"data": 2048, "token": 399, "is": 399, "local": 7, "set": 7, "catch": 8}
        for op, most in bounds.items():
            self.good(("plain", op, 0), ("plain", op, most))
            self.bad(("plain", op, -1), ("plain", op, most + 1))
        self.good(("plain", "lit", 10 ** 39), ("plain", "lit", -1), ("plain", "locals", 1), ("plain", "locals", 8),
                  ("plain", "run", (0, 8)))
        self.bad(("plain", "locals", 0), ("plain", "locals", 9), ("plain", "run", (0, 9)), ("plain", "run", [0, 8]),
                 ("plain", "run", 0), ("plain", "run", (0, True)), ("plain", "run", (0,)))
        for thing in NO_INTEGERS:
            for op in (*bounds, "lit", "locals", "run"):
                self.bad(("plain", op, thing))
        for op in ("goto", "unless", "exit", "call", "jump", "spill", "", None, 5, ["dup"], "nope"):
            self.bad(("plain", op, 0))

    def test_no_rows(self):
        self.bad((), None, "exit", ["exit"], ("nope",), (None,), (5,), (("exit",),), (["exit"],), ("dup", 0), 5)


class Takes(Case):
    def test_takes_and_gives(self):
        for row, sources, slot in (
                (("spill", LIT), (LIT,), -1), (("fill", 2), (), 2), (("put", 3, REG), (REG,), 3),
                (("do", "+", (REG, LIT), 1), (REG, LIT), 1), (("do", "!", (LIT, REG), -1), (LIT, REG), -1),
                (("do", "here", (), 0), (), 0), (("throw", REG), (REG,), -1), (("unless", LIT, 4), (LIT,), -1),
                (("goto", 4), (), -1), (("call", 4), (), -1), (("jump", 4), (), -1), (("exit",), (), -1),
                (("keep", LIT), (LIT,), -1), (("back", 2), (), 2), (("look", 3), (), 3),
                (("locals", (REG, LIT)), (REG, LIT), -1), (("local", 5, 2), (), 2), (("set", 5, LIT), (LIT,), -1),
                (("plain", "lit", 5), (), -1), (("plain", "run", (1, 1)), (), -1)):
            self.assertEqual((row, takes(row), gives(row)), (row, sources, slot))


class Steps(Case):
    body = ops("lit#5 data#2 token#3 dup drop swap over rot here exit")

    def test_each_step(self):
        one, two, three = ("reg", 1), ("reg", 2), ("reg", 3)
        layout = (one, two, three)
        for place, after in ((0, layout + (("lit", 5),)), (1, layout + (("data", 2),)), (2, layout + (("token", 3),)),
                             (3, layout + (three,)), (4, (one, two)), (5, (one, three, two)), (6, layout + (two,)),
                             (7, (two, three, one))):
            self.assertEqual(after_steps(self.body, place, layout, place + 1), after)

    def test_in_a_row(self):
        self.assertEqual(after_steps(ops("lit#1 lit#2 swap over rot drop exit"), 0, (), 6),
                         (("lit", 1), ("lit", 2)))

    def test_a_layout_that_is_too_short(self):
        for place, least in ((3, 1), (4, 1), (5, 2), (6, 2), (7, 3)):
            self.assertIsNone(after_steps(self.body, place, (LIT,) * (least - 1), place + 1))
            self.assertIsNotNone(after_steps(self.body, place, (LIT,) * least, place + 1))

    def test_a_layout_that_is_too_short_on_the_way(self):
        for place in (3, 4, 5, 6, 7):
            self.assertIsNone(after_steps(self.body, place, (), 8))
        self.assertIsNone(after_steps(ops("drop lit#1 exit"), 0, (), 2))

    def test_goals(self):
        self.assertEqual(after_steps(self.body, 4, (LIT,), 4), (LIT,))
        self.assertEqual(after_steps(self.body, 8, (LIT,), 8), (LIT,))
        self.assertIsNone(after_steps(self.body, 4, (LIT,), 3))
        self.assertIsNone(after_steps(self.body, 8, (LIT,), 9))
        self.assertIsNone(after_steps(self.body, 0, (LIT,) * 3, 9))
        self.assertIsNone(after_steps(self.body, 0, (LIT,) * 3, 10))
        self.assertIsNone(after_steps(self.body, 0, (LIT,) * 3, 99))
        self.assertIsNone(after_steps(ops("lit#1 lit#2"), 0, (), 3))

    def test_nothing_is_changed(self):
        layout = (REG, LIT)
        after_steps(self.body, 3, layout, 7)
        self.assertEqual(layout, (REG, LIT))


if __name__ == "__main__":
    import unittest
    unittest.main()
