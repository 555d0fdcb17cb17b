"""The package's own source text: its words, their effects, and its reader."""

import random

from tests.helpers import Case
from tests.test_session import PIECES, some_lines
from wordmint.minting import mint, settles
from wordmint.reading import check_text
from wordmint.session import Session
from wordmint.source import SOURCE, source_words

NAMES = """if else then begin until again while repeat for next i ( \\ ['] [char] s" ." nip tuck 2dup 2drop 1+ 1- negate not > <> 0<
    abs min max true false cr space +! decimal hex char variable constant array read"""
NOW = "if else then begin until again while repeat for next i ( \\ ['] [char] s\" .\"".split()
EFFECTS = {"nip": (2, 1), "tuck": (2, 3), "2dup": (2, 4), "2drop": (2, 0), "1+": (1, 1), "1-": (1, 1), "negate": (1, 1), "not": (1, 1),
           ">": (2, 1), "<>": (2, 1), "0<": (1, 1), "abs": (1, 1), "min": (2, 1), "max": (2, 1), "true": (0, 1), "false": (0, 1), "cr": (0, 0),
           "space": (0, 0), "+!": (2, 0), "decimal": (0, 0), "hex": (0, 0), "char": (0, 1), "variable": (0, 0), "constant": (1, 0),
           "array": (1, 0)}
HALVES = {16: 32768, 24: 8388608, 32: 2147483648}


class Base(Case):
    systems = {}

    def session(self, *lines, width=16):
        if width not in self.systems:
            self.systems[width] = mint(width, SOURCE)
        session = Session.of(self.systems[width])
        if lines:
            outcome = session.read(list(lines))
            self.assertEqual((outcome.kind, outcome.number), ("done", 0), lines)
        return session

    def leaves(self, text, *items, width=16):
        """The text, read behind the source, leaves these items."""
        self.assertEqual(self.session(text, width=width).stack, items, text)

    def prints(self, text, output):
        outcome = self.session().read([text])
        self.assertEqual((outcome.kind, outcome.output), ("done", output), text)

    def ends(self, text, kind, number=0, width=16):
        outcome = self.session(width=width).read([text])
        self.assertEqual((outcome.kind, outcome.number), (kind, number), text)


class Words(Base):
    def test_the_text(self):
        self.assertEqual((SOURCE.__class__, check_text(SOURCE)), (tuple, SOURCE))
        self.assertEqual(source_words(), tuple(NAMES.split()))

    def test_names_lists_and_effects(self):
        for width in (16, 24, 32):
            system = self.session(width=width).system
            for name in source_words():
                word = system[system.number_of(name)]
                self.assertEqual((word.name, word.home, word.kind, word.immediate), (name, 1, "plain", name in NOW))
                if name in EFFECTS:
                    self.assertEqual(word.effect, EFFECTS[name], name)
            self.assertEqual(set(source_words()) - set(NOW) - set(EFFECTS), {"read"})
            self.assertEqual((system.lists.count, system.lists.order, system.lists.into, system.opened, system.compiling),
                             (2, (1, 0), 1, [], False))
            self.assertEqual(self.session(width=width).stack, ())

    def test_effects_of_words_that_are_made(self):
        session = self.session("variable v 5 constant c 3 array a")
        told = [session.system[session.system.number_of(name)] for name in "vca"]
        self.assertEqual([(word.kind, word.effect) for word in told], [("made", (0, 1)), ("made", (0, 1)), ("made", (1, 1))])

    def test_it_mints_itself(self):
        for width in (16, 24, 32):
            self.assertEqual(settles(width, SOURCE), 0)


class Choices(Base):
    def test_if(self):
        session = self.session(": f if 10 then 20 ; : g if 1 else 2 then ; : h if if 1 else 2 then else if 3 else 4 then then ; : e if else then ;")
        for text, items in (("0 f", (20,)), ("1 f", (10, 20)), ("-1 f", (10, 20)), ("0 g", (2,)), ("7 g", (1,)), ("1 1 h", (1,)), ("0 1 h", (2,)),
                            ("1 0 h", (3,)), ("0 0 h", (4,)), ("0 e 1 e", ())):
            copy = session.copy()
            copy.read([text])
            self.assertEqual(copy.stack, items, text)

    def test_begin_until(self):
        self.leaves(": f begin 1 - dup 0 = until ; 5 f", 0)
        self.leaves(": f begin 1 + dup 5 = until ; 4 f", 5)
        self.prints(": f 3 begin dup . 1 - dup 0 = until drop ; f", "3 2 1 ")

    def test_begin_again(self):
        self.prints(": f 3 begin dup . 1 - dup 0 = if drop exit then again ; f", "3 2 1 ")
        self.ends(": f begin again ; f", "steps")

    def test_begin_while_repeat(self):
        session = self.session(": f begin dup while dup . 1 - repeat drop ;")
        for text, output in (("3 f", "3 2 1 "), ("1 f", "1 "), ("0 f", "")):
            self.assertEqual(session.copy().read([text]).output, output)
        self.prints(": f begin dup 5 < while dup . 1 + repeat . ; 9 f 2 f", "9 2 3 4 5 ")

    def test_nested_rounds(self):
        self.prints(": f 2 begin dup while 3 begin dup while dup . 1 - repeat drop 1 - repeat drop ; f", "3 2 1 3 2 1 ")
        self.prints(": f 0 begin 1 + dup 2 mod if dup . then dup 6 = until drop ; f", "1 3 5 ")
        self.prints(": f begin dup while dup 3 = if 65 emit else dup begin dup while 66 emit 1 - repeat drop then 1 - repeat drop ; 4 f", "BBBBABBB")

    def test_for_next(self):
        session = self.session(": f for i . next ; : g for 65 emit next 7 ;")
        for text, output in (("3 f", "3 2 1 "), ("1 f", "1 "), ("0 f", ""), ("2 g", "AA"), ("0 g", ""), ("300 f", None)):
            outcome = session.copy().read([text])
            self.assertEqual(outcome.kind, "done")
            if output is not None:
                self.assertEqual(outcome.output, output)
        self.assertEqual(session.system[session.system.number_of("f")].effect, (1, 0))
        self.leaves(": f 0 swap for i + next ; 4 f", 10)

    def test_i_in_nested_rounds(self):
        self.prints(": f for i . 2 for i . next next ; 2 f", "2 2 1 1 2 1 ")
        self.prints(": f for i dup . for i . next next ; 3 f", "3 3 2 1 2 2 1 1 1 ")
        self.prints(": f 0 for i . next 1 for i . 0 for i . next i . next ; f", "1 1 ")
        self.prints(": f 3 for i 2 = if i . else 0 . then next ; f", "0 2 0 ")

    def test_a_check_of_what_is_open(self):
        for text, number in ((": f then", -1), (": f 1 then", -1), (": f if ;", -12), (": f begin until ;", 0), (": f until", -1), (": f for ;", -12),
                             (": f next", -1), (": f [ 3 ] then", -12), (": f [ 3 ] until", -12), ("if", -11), ("begin", -11), ("for", -11), ("i", -11)):
            self.ends(text, "error" if number else "done", number)


class Texts(Base):
    def test_remarks(self):
        self.leaves("1 ( 2 3 ) 4", 1, 4)
        self.ends("1 ( 2 3", "error", -15)
        self.assertEqual(self.session("1 \\ 2 3 nope", "4 \\", "5").stack, (1, 4, 5))
        self.assertEqual(self.session(": f 1 ( 2 ) \\ 3", "( x ) 4 ;", "f").stack, (1, 4))
        self.leaves("1 ( a ( b ) 2", 1, 2)

    def test_characters_and_tokens(self):
        self.leaves("char A char ~", 65, 126)
        self.leaves("char Abc", 65)
        self.leaves(": f [char] A [char] abc ; f", 65, 97)
        self.assertEqual(self.session("char", "  B").stack, (66,))
        self.ends("char", "error", -5)
        self.ends(": f [char]", "error", -5)
        self.ends("[char] A", "error", -11)
        session = self.session(": f ['] dup ['] nip ; f")
        self.assertEqual(session.stack, ((0,), (session.system.number_of("nip"),)))
        self.ends(": f ['] nope", "error", -13)
        self.ends(": f [']", "error", -14)
        self.ends("['] dup", "error", -11)
        self.leaves(": f 3 4 ['] nip run 2 1 ; f", 4)

    def test_strings(self):
        session = self.session(": f s\" ab c\" ; f 2dup type")
        self.assertEqual(session.stack, (2, 4))
        self.assertEqual(session.system.memory.text(2, 4), "ab c")
        self.prints(": f s\" ab c\" ; f type", "ab c")
        self.prints(": f .\" Hello, world.\" .\"  x\" ; f f", "Hello, world. xHello, world. x")
        self.prints(": f 65 emit .\" \" s\" \" type ; f", "A")
        self.leaves(": f s\" \" ; f", 2, 0)
        self.leaves(": f s\" a\" s\" bcd\" ; f", 2, 1, 3, 3)
        self.leaves(": f [: s\" ab\" ;] run 0 2 ; f", 2, 2)
        for text in (": f s\" abc", ": f .\" abc"):
            self.ends(text, "error", -15)
        self.ends(": f s\" abc\" [ 4000 allot", "error", -7)
        self.ends("2045 allot : f s\" abc\"", "error", -7)
        self.ends("2043 allot : f s\" abc\" ;", "done")


class Plain(Base):
    def test_items(self):
        self.leaves("1 2 nip", 2)
        self.leaves("1 2 tuck", 2, 1, 2)
        self.leaves("1 2 2dup", 1, 2, 1, 2)
        self.leaves("1 2 3 2drop", 1)
        session = self.session("' dup ' drop tuck 2dup nip 2drop")
        self.assertEqual(session.stack, ((1,), (0,)))

    def test_numbers_at_the_bounds(self):
        for width, half in HALVES.items():
            low, high = -half, half - 1
            for word, table in (
                    ("1+", {0: 1, -1: 0, high: low, low: low + 1}), ("1-", {0: -1, 1: 0, low: high, high: high - 1}),
                    ("negate", {0: 0, 1: -1, -5: 5, high: low + 1, low: low}), ("not", {0: -1, 1: 0, -1: 0, low: 0, high: 0}),
                    ("0<", {0: 0, 1: 0, -1: -1, low: -1, high: 0}), ("abs", {0: 0, 1: 1, -1: 1, high: high, low + 1: high, low: low})):
                for number, told in table.items():
                    self.leaves(f"{number} {word}", told, width=width)
            for one in (low, low + 1, -1, 0, 1, high - 1, high):
                for two in (low, -1, 0, 1, high):
                    self.leaves(f"{one} {two} > {one} {two} <> {one} {two} min {one} {two} max", -1 if one > two else 0, -1 if one != two else 0,
                                min(one, two), max(one, two), width=width)

    def test_truths_and_printing(self):
        self.leaves("true false", -1, 0)
        self.prints("65 emit space cr space", "A \n ")

    def test_bases(self):
        self.leaves("hex 10 ff decimal 10 hex a decimal", 16, 255, 10, 10)
        self.prints("255 hex . decimal 16 hex . decimal 255 .", "ff 10 255 ")
        self.assertEqual(self.session("hex").system.memory.cell(0), 16)
        # Both set the base whatever it is now.
        self.leaves("hex decimal 10 2 base ! decimal 10 hex hex 10 decimal", 10, 10, 16)

    def test_adding_to_a_cell(self):
        self.leaves("variable v 5 v ! 3 v +! v @ -9 v +! v @", 8, -1)
        self.leaves("variable v 32767 v ! 1 v +! v @", -32768)
        self.ends("1 -1 +!", "error", -5)
        self.ends("1", "done")

    def test_variables(self):
        for width in (16, 24, 32):
            cell = width // 8
            session = self.session("variable a variable b a b a @ b @ 7 b ! b @ a @", width=width)
            self.assertEqual(session.stack, (cell, 2 * cell, 0, 0, 7, 0))
            self.assertEqual(len(session.system.memory), 3 * cell)
        self.ends("variable", "error", -14)
        self.ends("2045 allot variable v", "error", -7)

    def test_constants(self):
        self.leaves("5 constant five -3 constant less five less five +", 5, 2)
        self.leaves(": make constant ; 7 make seven : f seven seven ; f", 7, 7)
        self.ends("constant x", "error", -1)
        self.ends("1 constant", "error", -14)

    def test_arrays(self):
        for width in (16, 24, 32):
            cell = width // 8
            session = self.session("3 array a 0 a 1 a 2 a here", "0 a @ 1 a @ 2 a @ 9 1 a ! 0 a @ 1 a @ 2 a @", width=width)
            self.assertEqual(session.stack, (cell, 2 * cell, 3 * cell, 4 * cell, 0, 0, 0, 0, 9, 0))
        self.leaves("0 array none here", 2)
        self.leaves("1023 array all here", 2048)
        for count in (1024, 2047, 2048, 16384, 32767, -1, -32768):
            self.ends(f"5 , {count} array x", "error", -7)
        self.ends("array x", "error", -1)
        self.ends("3 array", "error", -14)


class Reader(Base):
    """The reader reads each text as the host does."""

    def alike(self, lines, width=16, before=(), feed=()):
        """The kind with which both readings end."""
        one, two = self.session(*before, width=width), self.session(*before, width=width)
        first, second = one.read(lines, feed=feed), two.read_by("read", lines, feed=feed)
        self.assertEqual((first.kind, first.number, first.output), (second.kind, second.number, second.output), lines)
        self.assertEqual((one.stack, one.system), (two.stack, two.system), lines)
        self.assertEqual((one.system.opened == [], one.system.compiling), (two.system.opened == [], two.system.compiling))
        return first.kind

    def test_texts_that_are_done(self):
        for width in (16, 24, 32):
            for lines in ([], [""], ["1 2 +"], [": f ( a -- b ) dup ;", "3 f"], [": f { a b } b to a a ; 1 2 f ."], ["hex ff decimal 10"],
                          ["16 base ! ff a 10 base !", "255 10"], [": open 1 2", "[: 3"], ["variable v 5 v ! v @ ."], ["word abc .", "10 parse x y"],
                          ["defer d 0 1 : s is d ; ' true s d"], [": f if 1 else 2 then ; 0 f"], ["new-list dup also into : x 1 ; x", "previous"],
                          ["1 ( 2 3 ) 4 \\ 5", "6"], [": f postpone if ; immediate : g f 1 then ;"], list(SOURCE), ["ask ask +"],
                          ["marker m 1 , : x ; m", "here"], [": f [ 1 2 + literal ] ; f"], ["' dup ' nip"], ["read 1 2", "3"], [": x read ; x 5 6"]):
                self.assertEqual(self.alike(lines, width, feed=(7, 8, 9)), "done", lines)

    def test_texts_that_are_refused(self):
        for lines, kind in ((["1 nope"], "error"), (["1 : x nope"], "error"), (["drop"], "error"), (["1 0 /"], "error"), ([":"], "error"), ([";"], "error"),
                            ([": x ;]"], "error"), (["[: 1"], "error"), (["0 base ! 1"], "error"), (["37 base ! dup 1"], "error"), (["5 throw"], "error"),
                            (["postpone dup"], "error"), ([": x postpone nope"], "error"), (["ask"], "asks"), (["1 2 : x 1 ; immediate : y x ; y ask"], "asks"),
                            ([": f [: 5 throw ;] catch 0 throw ; f"], "error"), (["' nope"], "error"), ([">r"], "error"), (["1 2 + ' dup +"], "error"),
                            (["char"], "error"), ([": " + "x" * 17], "error"), (["5 c, -3 allot", "nope"], "error"), (["99999"], "error"), (["1a"], "error")):
            self.assertEqual(self.alike(lines), kind, lines)

    def test_texts_at_random(self):
        luck = random.Random(121)
        kinds = {}
        for turn in range(120):
            width = (16, 24, 32)[turn % 3]
            if turn % 2:
                lines = some_lines(luck, 14)
            else:
                pieces = PIECES + list(source_words()) + ["if", "then", "begin", "until", "1", "2", ";", ": z"]
                lines = [" ".join(luck.choice(pieces) for _ in range(luck.randint(0, 8))) for _ in range(luck.randint(1, 4))]
            kind = self.alike(lines, width, feed=(1, 2, 3), before=([": x 3 ;"], ["1 2 3"], [])[turn % 3])
            kinds[kind] = kinds.get(kind, 0) + 1
        self.assertGreater(kinds["done"], 20, kinds)
        self.assertGreater(kinds["error"], 20, kinds)

    def test_it_leaves_open_what_is_open(self):
        session = self.session()
        self.assertTrue(session.read_by("read", [": f ( a -- b ) 1", "[: 2 <mark"]))
        self.assertEqual([one.name for one in session.system.opened], ["f", ""])
        self.assertTrue(session.system.compiling)

    def test_frames_and_steps(self):
        outcome = self.session().read_by("read", SOURCE)
        self.assertEqual(outcome.kind, "done")
        self.assertLess(outcome.steps, 10000)


if __name__ == "__main__":
    import unittest
    unittest.main()
