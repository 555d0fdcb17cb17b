"""Sessions: readings, their outcomes, putting back, feeds, steps, and readers that are words."""

import random

from tests.helpers import Case, ops
from wordmint.errors import BadNumber, BadRoom, BadText, BadWidth, Refused, Thrown, Unknown
from wordmint.machine import Machine
from wordmint.session import Outcome, Session
from wordmint.system import KERNEL, System

FIRST = len(KERNEL)
# A reader in the words of the kernel alone. Behind lookup, x and k are on the stack.
READER = [
    ": a-local drop local, ; : a-now drop perform ;",
    ": a-word drop state [ unless> ] compile [ goto> swap >land ] perform [ >land ] ;",
    ": a-number drop state [ unless> ] literal [ goto> swap >land ] [ >land ] ;",
    ": a-kind dup 2 = [ unless> ] a-local exit [ >land ] dup 1 = [ unless> ] a-word exit [ >land ]",
    "dup -1 = [ unless> ] a-now exit [ >land ] dup 3 = [ unless> ] a-number exit [ >land ] drop drop -13 throw ;",
    ": read [ <mark ] word [ unless> swap ] lookup a-kind [ <goto >land ] ;",
]
# exit as a word ends its own frame, so a word with several ends takes it as an instruction.
PIECES = """dup drop swap 1 2 -3 + . emit 65 : x y ; ;] [: [ ] : w { a b } a b to recurse 1 run catch 0 defer d 1 0 ' c
create , @ here immediate postpone x nope $ff 70000 marker m m d is state literal compile ( a -- b ) ( r ) 0 throw 5 allot
<mark <goto goto> >land unless> perform ask word parse pad@ pad, lookup 41 base ! 10 also into new-list previous""".split()

WHOLE = [": x dup drop ;", "1 2", "x", ": y { a b } a b to a ;", ": z [: 1 ;] run 0 1 ;", "z .", "defer d 0 0", ": s is d ;",
         "' x s", "d", "create c 5 ,", "c @ .", ": now 65 emit ; immediate", ": k create , [: @ ;] behave ;", "7 k seven",
         "seven .", "marker m", "m", "16 base !", "ff .", ": q postpone now postpone x ; immediate", ": u q ;", "u",
         "ask drop", "ask drop", ": l [ <mark ] 0 [ <unless ] ;", ": r 5 throw ;", ": t [: r ;] catch 0 drop ;", "t", "drop",
         "new-list into", "2 also", "previous", "1 into", "word abc .", ": o", ";", "[", "]", "41 parse a b) ."]


def some_lines(luck, most):
    """A text at random, of pieces most of which can be read one behind the other."""
    probe = Session(16)
    lines = [[]]
    for _ in range(luck.randint(2, most)):
        piece = luck.choice(WHOLE) if luck.random() < 0.8 else luck.choice(PIECES)
        if probe.read([piece], feed=(1,)) or luck.random() < 0.04:
            if luck.random() < 0.5:
                lines.append([])
            lines[-1].append(piece)
    return [" ".join(line) for line in lines]


def state(session):
    """All that a reading may change."""
    system = session.system
    return (session.stack, [word.plain() for word in system], system.lists.count, system.lists.order, system.lists.into,
            system.memory.all_bytes(), [one.plain() for one in system.opened], system.compiling)


class Base(Case):
    def session(self, *lines, width=16, **named):
        session = Session(width, **named)
        if lines:
            outcome = session.read(list(lines))
            self.assertEqual((outcome.kind, outcome.number), ("done", 0))
        return session

    def ends(self, outcome, kind, number=0, place=(None, None), output="", steps=None):
        self.assertIsInstance(outcome, Outcome)
        self.assertEqual((outcome.kind, outcome.number, (outcome.line, outcome.column), outcome.output),
                         (kind, number, place, output))
        self.assertIs(bool(outcome), kind == "done")
        if steps is not None:
            self.assertEqual(outcome.steps, steps)

    def refused(self, session, lines, kind, number, place, output="", steps=None, **named):
        """The reading is refused so, and the session is as it was."""
        before = state(session)
        outcome = session.read(lines, **named)
        self.ends(outcome, kind, number, place, output, steps)
        self.assertEqual(state(session), before)


class Kinds(Base):
    def test_done(self):
        session = self.session()
        self.ends(session.read([": sq dup * ;", "7 sq ."]), "done", output="49 ", steps=9)
        self.ends(session.read([]), "done", steps=0)
        self.ends(session.read(["", "   "]), "done", steps=0)
        self.ends(session.read(("1 2", "3")), "done", steps=0)
        self.assertEqual(session.stack, (1, 2, 3))
        self.ends(session(["drop"]), "done", steps=2)
        self.assertEqual(session.stack, (1, 2))
        self.assertIs(session.stack.__class__, tuple)

    def test_error(self):
        session = self.session("1 2 : f 65 emit 5 throw ;")
        self.refused(session, ["3", " 65 emit  f 7"], "error", 5, (1, 10), "AA", 6)
        self.refused(session, ["3 4 5 drop drop drop drop drop drop"], "error", -1, (0, 31))
        self.refused(session, [": x", "dup", "nope"], "error", -13, (2, 0))
        self.refused(session, ["12a"], "error", -13, (0, 0))
        self.refused(session, ["create"], "error", -14, (0, 0))
        self.refused(session, [": y 5 c, ] [ 1 c, ;", "5 c, new-list also into", "nope"], "error", -13, (2, 0))

    def test_asks(self):
        session = self.session(": f 7 ask drop 65 emit ask ;")
        self.refused(session, ["1 f"], "asks", 0, (0, 2))
        self.refused(session, ["1 f"], "asks", 0, (0, 2), "A", feed=(5,))
        self.ends(session.read(["1 f"], feed=(5, 6)), "done", output="A")
        self.assertEqual(session.stack, (1, 7, 6))

    def test_over(self):
        session = self.session("1 2 3 4 5 6 7", data=8)
        self.refused(session, ["8 dup"], "over", 0, (0, 2), steps=0)
        self.refused(session, ["8", " 9"], "over", 0, (1, 1), steps=0)
        self.ends(session.read(["8"]), "done")
        self.refused(session, ["9"], "over", 0, (0, 0))
        self.refused(session, [": w 9 ; w"], "over", 0, (0, 8))

    def test_deep(self):
        session = self.session(": f 65 emit recurse ;", frames=3)
        self.refused(session, ["f"], "deep", 0, (0, 0), "AAA", 8)
        session = self.session(": f 65 emit recurse ;")
        self.refused(session, ["f"], "deep", 0, (0, 0), "A" * 48)

    def test_steps(self):
        session = self.session(": f [ <mark ] [ <goto ] ; : one 1 drop ;")
        self.refused(session, ["1 f"], "steps", 0, (0, 2), steps=20000)
        outcome = session.read(["f"], steps=50)
        self.ends(outcome, "steps", place=(0, 0), steps=50)

    def test_steps_of_several_words_together(self):
        session = self.session(": one 1 drop ;")
        for steps, kind, place in ((9, "done", (None, None)), (8, "steps", (0, 8)), (7, "steps", (0, 8)),
                                   (6, "steps", (0, 8)), (5, "steps", (0, 4)), (3, "steps", (0, 4)), (2, "steps", (0, 0)),
                                   (0, "steps", (0, 0))):
            outcome = session.read(["one one one"], steps=steps)
            self.ends(outcome, kind, place=place, steps=min(steps, 9))
        self.ends(session.read(["1 2"], steps=0), "done", steps=0)

    def test_asks_at_the_last_step(self):
        session = self.session()
        self.ends(session.read(["ask"], steps=0), "steps", place=(0, 0), steps=0)
        self.ends(session.read(["ask"], steps=1), "asks", place=(0, 0), steps=0)

    def test_the_place_is_that_of_a_word_of_the_reader(self):
        session = self.session()
        self.refused(session, ["1", "  parse abc"], "error", -10, (1, 2))
        self.refused(session, [" ' ", "  nope"], "error", -13, (0, 1))
        self.refused(session, ["  word", "abc nope"], "error", -13, (1, 4))


class Reading(Base):
    def test_words_and_numbers(self):
        session = self.session("10 $ff #12 -5 65535 $-1 dup")
        self.assertEqual(session.stack, (10, 255, 12, -5, -1, -1, -1))
        self.refused(session, ["65536"], "error", -13, (0, 0))
        session = self.session("40000 70000", width=24)
        self.assertEqual(session.stack, (40000, 70000))

    def test_numbers_in_the_base_of_the_base_cell(self):
        session = self.session("16 base ! ff 10 #10 $10 2 base ! 101")
        self.assertEqual(session.stack, (255, 16, 10, 16, 5))
        self.refused(session, ["2"], "error", -13, (0, 0))
        self.assertTrue(session.read(["$24 base ! z"]))
        self.assertEqual(session.stack[-1], 35)

    def test_a_base_that_is_none(self):
        session = self.session("1 base !")
        self.refused(session, ["here 5"], "error", -17, (0, 5), steps=2)
        self.refused(session, ["here nope"], "error", -17, (0, 5), steps=2)
        self.assertTrue(session.read([": w { a } a dup ; here"]))

    def test_numbers_while_compiling(self):
        session = self.session(": w 5 -1 [ 7 ] ;")
        self.assertEqual((session.system[FIRST].body, session.stack), (ops("lit#5 lit#-1 exit"), (7,)))

    def test_locals(self):
        session = self.session(": w { a b } a b to a dup ;")
        self.assertEqual(session.system[FIRST].body, ops("locals#2 local#0 local#1 set#0 dup exit"))
        self.refused(session, [": x { a } [ a"], "error", -13, (0, 12))

    def test_a_local_goes_ahead_of_a_word(self):
        session = self.session(": w { dup ; } dup ; [ ' ; perform")
        self.assertEqual(session.system[FIRST].body, ops("locals#2 local#0 local#1 exit"))

    def test_immediate_words(self):
        session = self.session(": now 5 literal 6 ; immediate : w now [ now ] ; immediate 3")
        self.assertEqual((session.system[FIRST + 1].body, session.stack), (ops("lit#5 lit#5 exit"), (6, 6, 3)))

    def test_too_many_instructions(self):
        session = self.session(": w { a }", "dup " * 40, "dup " * 40, "dup " * 38)
        for word in ("1", "dup", "a"):
            self.refused(session, ["  " + word], "error", -20, (0, 2))
        self.assertTrue(session.read([";"]))
        self.assertEqual(len(session.system[FIRST].body), 120)

    def test_a_definition_that_stays_open(self):
        session = self.session(": w 1 [: 2")
        self.assertEqual((len(session.system.opened), session.system.compiling), (2, True))
        self.refused(session, ["3 ;] ; 4 nope"], "error", -13, (0, 9))
        self.ends(session.read(["3 ;] ; 4"]), "done")
        self.assertEqual((session.system.opened, session.system.compiling, session.stack), ([], False, (4,)))
        self.assertEqual([word.body for word in session.system.words[FIRST:]],
                         [ops("lit#2 lit#3 exit"), ops(f"lit#1 token#{FIRST} exit")])

    def test_the_feed_goes_from_word_to_word(self):
        session = self.session()
        self.ends(session.read(["ask ask + . ask"], feed=[1, 2, 3, 4]), "done", output="3 ")
        self.assertEqual(session.stack, (3,))

    def test_caught_and_the_source(self):
        session = self.session("1 : caught 0 pad@ ; caught")
        self.assertEqual(session.stack, (1, 99))
        self.assertEqual(session.system.caught, "caught")
        self.assertTrue(session.system.source.ended())

    def test_a_refused_word_may_be_run(self):
        session = self.session(": p perform ; 5 ' dup p")
        self.assertEqual(session.stack, (5, 5))

    def test_wrong_texts(self):
        session = self.session("1")
        for lines, told in ((None, -1), ("1 2", -1), (["1"] * 201, -1), (["1", None], 1), (["1", "2", "a\tb"], 2),
                            (["x" * 201], 0), (["50%"], 0), ({}, -1)):
            for call in (session.read, session, session.demand):
                self.fails(BadText, told, call, lines)
        self.fails(BadText, 0, session.read, [None], feed=[None])
        self.assertEqual(session.stack, (1,))
        self.ends(session.read(["1 " * 60] + ["drop " * 30] * 2), "done")
        self.ends(session.read([""] * 200), "done")

    def test_wrong_feeds(self):
        session = self.session("1")
        for number in (True, None, 32768, -32769, "1", (0,)):
            self.fails(BadNumber, number, session.read, ["2"], feed=[1, number, None])
        self.assertEqual(session.stack, (1,))

    def test_lists_that_are_passed_stay(self):
        session = self.session()
        lines, feed = ["ask"], [1, 2]
        session.read(lines, feed=feed)
        self.assertEqual((lines, feed), (["ask"], [1, 2]))

    def test_demand(self):
        session = self.session("5")
        self.assertEqual(session.demand(["dup ."]), "5 ")
        for lines, kind, number in ((["nope"], "error", -13), (["ask"], "asks", 0), (["7 throw"], "error", 7)):
            with self.assertRaises(Refused) as caught:
                session.demand(lines)
            self.assertEqual(caught.exception.kind, kind)
            self.assertIsInstance(caught.exception.__cause__, Thrown)
            self.assertEqual(caught.exception.__cause__.number, number)
        self.assertEqual(session.stack, (5,))

    def test_texts_in_two_readings(self):
        luck = random.Random(3)
        ways = 0
        for _ in range(300):
            lines = some_lines(luck, 8)
            cut = luck.randint(0, len(lines))
            whole, parts = self.session(), self.session()
            first = parts.read(lines[:cut], feed=(1, 2, 3))
            if not first or first.output or "ask" in " ".join(lines):
                continue
            second = parts.read(lines[cut:])
            outcome = whole.read(lines)
            if second:
                ways += 1
                self.assertEqual((outcome.kind, outcome.output), ("done", second.output), lines)
                self.assertEqual(state(whole), state(parts), lines)
        self.assertGreater(ways, 50)


class Made(Base):
    def test_errors(self):
        for width in (8, None, True, "16"):
            self.fails(BadWidth, width, Session, width, data=0)
        for data in (7, 201, True, None):
            self.fails(BadRoom, data, Session, 16, data=data, frames=0)
        for frames in (0, 201, True, None):
            self.fails(BadRoom, frames, Session, 16, frames=frames)

    def test_at_the_beginning(self):
        session = Session(24, data=8, frames=1)
        self.assertEqual((session.stack, session.system), ((), System(24)))
        self.assertIsInstance(session.system, System)

    def test_rooms(self):
        session = Session(16, data=9, frames=2)
        self.assertEqual(session.read(["1 " * 10]).kind, "over")
        self.assertTrue(session.read(["1 " * 9]))
        self.assertEqual(session.read([": a ; : b a ; : c b ; c"]).kind, "deep")
        self.assertTrue(session.read([": a ; : b a ; b"]))

    def test_copy(self):
        session = self.session(": w 1 2 ; w", data=9, frames=3)
        other = session.copy()
        self.assertEqual(state(session), state(other))
        self.assertTrue(other.read(["1 2 3 4 5 6 7 : x ;"]))
        self.assertEqual(other.read(["1"]).kind, "over")
        self.assertEqual(other.read([": a recurse ; a"]).kind, "deep")
        self.assertEqual((session.stack, len(session.system)), ((1, 2), FIRST + 1))
        self.assertTrue(session.read(["drop"]))
        self.assertEqual(len(other.stack), 9)

    def test_of(self):
        before = self.session(": w 1 2 ; w : x 5", data=9, frames=3)
        session = Session.of(before.system)
        self.assertEqual((session.stack, session.system), ((), before.system))
        self.assertIsNot(session.system, before.system)
        self.assertTrue(session.read(["6 ; x"] + ["1 " * 62]))
        self.assertEqual((len(session.stack), session.read(["1"]).kind), (64, "over"))
        self.assertEqual((len(before.system.opened), before.stack), (1, (1, 2)))
        self.assertEqual(session.read([": y drop recurse ; y"]).kind, "deep")

    def test_a_session_that_is_refused_keeps_its_system(self):
        session = self.session(": w ;")
        system = session.system
        self.assertFalse(session.read([": x ; nope"]))
        self.assertEqual((len(session.system), len(system)), (FIRST + 1, FIRST + 1))


class Run(Base):
    def test_run(self):
        session = self.session(": w dup . ask ; 5")
        self.ends(session.run("w", feed=[8]), "done", output="5 ", steps=4)
        self.assertEqual(session.stack, (5, 8))
        before = state(session)
        self.ends(session.run("w"), "asks", output="8 ", steps=2)
        self.ends(session.run("throw"), "error", 8, steps=1)
        self.ends(session.run("w", steps=1), "steps", steps=1)
        self.assertEqual(state(session), before)

    def test_run_makes_words(self):
        session = self.session(": w here drop 5 c, new-list ;")
        self.assertTrue(session.run("w"))
        self.assertEqual((session.system.memory.all_bytes(), session.system.lists.count, session.stack),
                         ((10, 0, 5), 3, (2,)))
        self.ends(session.run("create"), "error", -14)

    def test_run_of_the_other_kinds(self):
        session = self.session(": w recurse ; : n 1 ; 1 2 3 4 5 6 7 8", data=8, frames=4)
        self.ends(session.run("w"), "deep", steps=3)
        self.ends(session.run("n"), "over", steps=0)
        session = self.session("marker m : w ;")
        self.ends(session.run("m"), "done", steps=1)
        self.assertEqual(len(session.system), FIRST)

    def test_errors(self):
        session = self.session(": w ;")
        for name in ("nope", "", None, 5):
            self.fails(Unknown, name, session.run, name, feed=[None])
        for number in (True, None, 32768):
            self.fails(BadNumber, number, session.run, "w", feed=[1, number])

    def test_steps_if_none_are_told(self):
        session = self.session(": w [ <mark ] [ <goto ] ;")
        self.ends(session.run("w"), "steps", steps=20000)
        self.ends(session.read_by("w", []), "steps", steps=20000)

    def test_run_finds_by_the_order(self):
        session = self.session("new-list into : w 2 ; 1 into : w 1 ;")
        self.assertTrue(session.run("w"))
        self.assertTrue(session.read(["2 also"]))
        self.assertTrue(session.run("w"))
        self.assertEqual(session.stack, (1, 2))


class ReadBy(Base):
    def test_the_reader_reads(self):
        session = self.session(*READER)
        self.ends(session.read_by("read", [": sq dup * ;", "7 sq . 3"]), "done", output="49 ")
        self.assertEqual((session.stack, session.system.opened), ((3,), []))
        self.ends(session.read_by("read", ["sq ."]), "done", output="9 ")
        self.assertEqual(session.stack, ())

    def test_it_reads_as_the_host_does(self):
        luck = random.Random(5)
        kinds = {}
        for turn in range(300):
            lines = some_lines(luck, 30)
            host, other = self.readers[turn & 1].copy(), self.readers[turn & 1].copy()
            told = host.read(lines, feed=(1,))
            said = other.read_by("read", lines, feed=(1,))
            if {told.kind, said.kind} & {"over", "deep", "steps"}:
                continue
            kinds[told.kind] = kinds.get(told.kind, 0) + 1
            self.assertEqual((said.kind, said.number, said.output), (told.kind, told.number, told.output), lines)
            self.assertEqual(state(host), state(other), lines)
            self.assertEqual((said.line, said.column), (None, None))
        self.assertEqual(sorted(kinds), ["asks", "done", "error"])
        self.assertGreater(kinds["done"], 40)

    @property
    def readers(self):
        if not hasattr(self, "kept"):
            self.kept = (self.session(*READER), self.session(*READER, ": x 1 ; : y ; immediate 5 6", ": w"))
        return self.kept

    def test_refused(self):
        session = self.session(*READER, "1 2")
        before = state(session)
        self.ends(session.read_by("read", [": x ; 65 emit", "nope"]), "error", -13, output="A")
        self.ends(session.read_by("read", ["ask"]), "asks")
        self.ends(session.read_by("read", ["1 2 3"], steps=9), "steps", steps=9)
        self.assertEqual(state(session), before)

    def test_any_word_may_be_the_reader(self):
        session = self.session(": mine word drop 0 pad@ ask ; 5")
        self.ends(session.read_by("mine", ["abc nope"], feed=(8,)), "done")
        self.assertEqual(session.stack, (5, 97, 8))
        self.ends(session.read_by("drop", ["abc"]), "done", steps=2)

    def test_errors(self):
        session = self.session(*READER)
        for call in (session.read_by, session.reader_machine):
            for name in ("nope", "", None):
                self.fails(Unknown, name, call, name, None, feed=[None])
            for lines, told in ((None, -1), (["a", None], 1), (["a"] * 201, -1)):
                self.fails(BadText, told, call, "read", lines, feed=[None])
            self.fails(BadNumber, None, call, "read", [], feed=[1, None])

    def test_reader_machine(self):
        session = self.session(*READER, "4", data=20, frames=9)
        before = state(session)
        lines = [": sq dup * ;", "7 sq . ask"]
        machine = session.reader_machine("read", lines, feed=[3])
        self.assertIsInstance(machine, Machine)
        self.assertEqual((machine.kind, machine.steps, machine.stack, machine.feed), ("runs", 0, (4,), (3,)))
        self.assertEqual((machine.data, machine.frames, machine.at()), (20, 9, (session.system.find("read"), 0)))
        self.assertEqual((machine.store, machine.store.source.text()), (session.system, tuple(lines)))
        machine.go(20000)
        self.assertEqual(state(session), before)
        outcome = session.read_by("read", lines, feed=[3])
        self.ends(outcome, machine.kind, output=machine.output, steps=machine.steps)
        self.assertEqual((session.stack, session.system), (machine.stack, machine.store))

    def test_the_host_and_the_reader_take_turns(self):
        session = self.session(*READER)
        self.assertTrue(session.read([": w 1"]))
        self.assertTrue(session.read_by("read", ["2 [: 3"]))
        self.assertTrue(session.read([";]"]))
        self.assertTrue(session.read_by("read", ["; w"]))
        self.assertEqual(len(session.stack), 3)


class Bounds(Base):
    def test_a_long_text(self):
        session = self.session()
        lines = [": w dup drop ; " * 13] * 20 + ["1 drop " * 28] * 180
        outcome = session.read(lines)
        self.ends(outcome, "done", steps=20 * 13 * 4 + 180 * 28 * 2)
        session = self.session()
        self.assertEqual(session.read([": w ; " * 33] * 10).number, -20)
        self.assertTrue(session.read([": w ; " * 17] * 19))
        self.assertEqual(len(session.system), 400)
        for _ in range(20):
            self.assertTrue(session.read(["w w w w w w w w w w"]))

    def test_many_unknown_words(self):
        session = self.session(*[": w" + str(number) + " ;" for number in range(200)])
        self.ends(session.read(["1 drop w0 w199 " * 13] * 100, steps=20000), "done")


if __name__ == "__main__":
    import unittest
    unittest.main()
