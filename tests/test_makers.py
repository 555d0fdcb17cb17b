"""The building acts: what each does, its errors in their order, and what stays behind an error."""

from tests.helpers import Case, ops
from wordmint.forms import BUILDING, EFFECTS
from wordmint.machine import Machine
from wordmint.makers import full_actions
from wordmint.reading import Source
from wordmint.session import Session
from wordmint.system import KERNEL, System

FIRST = len(KERNEL)
KINDS = {"compile": "t", "behave": "t", "literal": "x"}
# For each act a system in which it does something, what it takes, and the text that stands ahead of it.
OPEN = [": w"]
ORDINARY = {
    "word": ([], (), "a"), "parse": ([], (41,), "a)"), "pad@": (["bl"], (0,), ""), "pad,": ([], (), ""),
    "lookup": ([], (), ""), "'": ([], (), "dup"), "compile": (OPEN, ((0,),), ""), "literal": (OPEN, (5,), ""),
    "address": (OPEN, (2,), ""), "local,": ([": w { a b }"], (1,), ""), "state": ([], (), ""), "[": (OPEN, (), ""),
    "]": (OPEN, (), ""), ":": ([], (), "x"), ";": (OPEN, (), ""), "[:": (OPEN, (), ""), ";]": ([": w [:"], (), ""),
    "self,": (OPEN, (), ""), "run,": (OPEN, (), "1 2"), "catch,": (OPEN, (), "3"),
    "is,": (["defer d 0 0 : w"], (), "d"), "to,": ([": w { a b }"], (), "b"), "{": (OPEN, (), "a b }"),
    "postpone": (OPEN, (), "dup"), "immediate": ([": w ;"], (), ""), "create": ([], (), "x"),
    "behave": (["create c"], ((0,),), ""), "defer": ([], (), "x 1 2"), "marker": ([], (), "x"), "<mark": (OPEN, (), ""),
    "<goto": ([": w [ <mark ] drop"], (0,), ""), "<unless": ([": w [ <mark ] drop"], (0,), ""), "goto>": (OPEN, (), ""),
    "unless>": (OPEN, (), ""), ">land": ([": w [ goto> drop ]"], (0,), ""), "new-list": ([], (), ""),
    "also": ([], (0,), ""), "into": ([], (0,), ""), "previous": ([], (), ""),
}
NEEDS_OPEN = """compile literal address local, [ ] ; [: ;] self, run, catch, is, to, { postpone <mark <goto <unless goto>
unless> >land""".split()
NEEDS_CLOSED = ": immediate create behave defer marker".split()


def system_of(*lines):
    """A system that a text was read into, with an empty caught word; bl is a word of one blank."""
    session = Session(16)
    if lines:
        outcome = session.read(list(lines))
        assert outcome.kind == "done", (outcome.kind, outcome.number, lines)
    return session.system


def done(op, system, stack=(), text="", **named):
    """A machine that did this one act."""
    system.source = Source([text])
    machine = Machine(system, 0, stack=stack, actions=full_actions(), **named)
    frame = machine.calls[-1]
    try:
        machine.do(frame, (op, 0))
    except Exception as error:
        machine.failure = (error.__class__.__name__, list(vars(error).values())[0])
    else:
        machine.failure = None
    return machine


class Single(Case):
    """Single acts, done by a machine that stands ahead of them."""

    def leaves(self, op, lines, stack, text, left, **named):
        system = system_of(*lines)
        machine = done(op, system, stack, text, **named)
        self.assertEqual((op, machine.failure), (op, None))
        self.assertEqual((op, machine.stack), (op, left))
        return system

    def throws(self, number, op, lines, stack=(), text="", rest="", caught=None):
        """The error, and nothing but the source and caught has changed."""
        system = system_of(*lines) if isinstance(lines, (list, tuple)) else lines
        before = system.copy()
        machine = done(op, system, stack, text)
        self.assertEqual((op, machine.failure), (op, ("Thrown", number)))
        self.assertEqual(machine.stack, tuple(stack))
        self.assertEqual(system, before)
        self.assertEqual(text[system.source.column:] if system.source.line == 0 else "", rest)
        self.assertEqual(system.caught, before.caught if caught is None else caught)
        return system


class Acts(Single):
    def test_the_table_is_whole(self):
        self.assertEqual(sorted(ORDINARY), sorted(BUILDING))
        actions = full_actions()
        self.assertEqual(sorted(actions), sorted(BUILDING + ("forget",)))
        actions.clear()
        self.assertEqual(len(full_actions()), len(BUILDING) + 1)

    def test_effects(self):
        for op in BUILDING:
            lines, stack, text = ORDINARY[op]
            takes, leaves = EFFECTS[op]
            self.assertEqual(len(stack), takes, op)
            if op == "pad@":
                system = system_of()
                system.caught = "a"
                machine = done(op, system, (9, 0), "")
            else:
                machine = done(op, system_of(*lines), (9, *stack), text)
            self.assertEqual((op, machine.failure), (op, None))
            self.assertEqual((op, len(machine.stack)), (op, 1 + leaves))
            self.assertEqual(machine.stack[0], 9)

    def test_too_few_items_and_wrong_kinds(self):
        for op in BUILDING:
            _, stack, text = ORDINARY[op]
            kind = KINDS.get(op, "n")
            if len(stack) == 1:
                # The looks at the stack go ahead of all errors of the act.
                self.throws(-1, op, [], (), text, rest=text)
                if kind != "x":
                    self.throws(-4, op, [], ((0,) if kind == "n" else 5,), text, rest=text)

    def test_a_full_stack(self):
        for op in BUILDING:
            _, stack, text = ORDINARY[op]
            takes, leaves = EFFECTS[op]
            if leaves > takes:
                # Over goes ahead of the act's own errors.
                system = system_of()
                machine = done(op, system, (0,) * (65 - leaves), text)
                self.assertEqual((op, machine.failure), (op, ("Halt", "over")))
                self.assertEqual((system, system.source.column), (system_of(), 0))

    def test_open_and_closed(self):
        for op in BUILDING:
            lines, stack, text = ORDINARY[op]
            if op in NEEDS_OPEN:
                self.throws(-11, op, [], stack, text, rest=text)
            elif op in NEEDS_CLOSED:
                self.throws(-11, op, ["create c : w"], stack, text, rest=text)
                self.throws(-11, op, ["create c : w [:"], stack, text, rest=text)
            else:
                system = system_of(": w")
                system.caught = "a"
                self.assertIsNone(done(op, system, stack, text).failure, op)

    def test_a_machine_that_has_no_building_acts(self):
        for op in (*BUILDING, "forget"):
            system = system_of()
            machine = Machine(system, 0, data=8)
            for stack in ((), (0,) * 8, ((0,),)):
                machine.pile = list(stack)
                with self.assertRaises(Exception) as caught:
                    machine.do(machine.calls[-1], (op, 0))
                self.assertEqual(caught.exception.number, -11)

    def test_word(self):
        system = self.leaves("word", [], (), "  abc  d", (3,))
        self.assertEqual((system.caught, system.source.column), ("abc", 6))
        system = self.leaves("word", [], (), "  ", (0,))
        self.assertEqual((system.caught, system.source.where()), ("", (1, 0)))

    def test_parse(self):
        system = self.leaves("parse", [], (41,), "a b) c", (3,))
        self.assertEqual((system.caught, system.source.column), ("a b", 4))
        system = self.leaves("parse", [], (41,), ")", (0,))
        self.assertEqual((system.caught, system.source.column), ("", 1))
        system = self.leaves("parse", [], (10,), " a b ", (5,))
        self.assertEqual((system.caught, system.source.column), (" a b ", 5))
        system = self.leaves("parse", [], (32,), "ab c", (2,))
        self.assertEqual((system.caught, system.source.column), ("ab", 3))
        for code in (0, 31, 37, 127, -1, 32767, 300):
            self.throws(-10, "parse", [], (code,), "a)", rest="a)")
        self.throws(-15, "parse", [], (41,), "a b", rest="a b")

    def test_pad_fetch(self):
        for caught, place, code in (("a~b ", 0, 97), ("a~b ", 1, 126), ("a~b ", 3, 32), ("&", 0, 38), ("$", 0, 36)):
            system = system_of()
            system.caught = caught
            self.assertEqual(done("pad@", system, (7, place)).stack, (7, code))
        for caught, place in (("", 0), ("ab", 2), ("ab", -1), ("ab", 32767)):
            system = system_of()
            system.caught = caught
            self.throws(-5, "pad@", system, (place,))

    def test_pad_append(self):
        system = system_of()
        system.caught = "a &"
        self.assertEqual(done("pad,", system, (9,)).stack, (9, 2, 3))
        self.assertEqual(system.memory.all_bytes(), (10, 0, 97, 32, 38))
        system.caught = ""
        self.assertEqual(done("pad,", system).stack, (5, 0))
        system.memory.grow(2048 - 5 - 3)
        system.caught = "abcd"
        self.throws(-7, "pad,", system)
        system.caught = "abc"
        self.assertEqual(done("pad,", system).stack, (2045, 3))
        self.assertEqual(len(system.memory), 2048)
        system.caught = ""
        self.assertEqual(done("pad,", system).stack, (2048, 0))

    def test_lookup(self):
        system = system_of(": sq dup * ; : now ; immediate : w { a dup }")
        number = system.find("sq")
        for caught, left in (("sq", ((number,), 1)), ("now", ((number + 1,), -1)), ("drop", ((1,), 1)),
                             ("[", ((KERNEL.index("["),), -1)), ("a", (0, 2)), ("dup", (1, 2)), ("12", (12, 3)),
                             ("-5", (-5, 3)), ("$ff", (255, 3)), ("#10", (10, 3)), ("65535", (-1, 3)), ("65536", (0, 0)),
                             ("w", (0, 0)), ("A", (0, 0)), ("", (0, 0)), ("-", ((9,), 1))):
            system.caught = caught
            self.assertEqual((caught, done("lookup", system, (8,)).stack), (caught, (8, *left)))
        system.compiling = False
        for caught, left in (("a", (0, 0)), ("dup", ((0,), 1))):
            system.caught = caught
            self.assertEqual(done("lookup", system).stack, left)

    def test_lookup_takes_the_innermost_definition(self):
        system = system_of(": w { a b } [: { b c }")
        for caught, left in (("a", (0, 0)), ("b", (0, 2)), ("c", (1, 2))):
            system.caught = caught
            self.assertEqual(done("lookup", system).stack, left)

    def test_lookup_and_the_base(self):
        for base, ends in ((2, True), (36, True), (1, False), (37, False), (0, False), (-1, False)):
            system = system_of()
            system.memory.put(0, base)
            for caught in ("dup", "[", "10", "$a", "nothing-", ""):
                system.caught = caught
                failure = done("lookup", system.copy()).failure
                self.assertEqual(failure is None, ends or caught in ("dup", "["), (base, caught))
                if failure is not None:
                    self.throws(-17, "lookup", system)
        system = system_of()
        system.memory.put(0, 16)
        for caught, left in (("ff", (255, 3)), ("#10", (10, 3)), ("$10", (16, 3)), ("g", (0, 0))):
            system.caught = caught
            self.assertEqual(done("lookup", system).stack, left)

    def test_tick(self):
        system = self.leaves("'", [": sq ;"], (), " sq x", ((FIRST,),))
        self.assertEqual((system.caught, system.source.column), ("sq", 4))
        self.throws(-14, "'", [], (), " ", caught="")
        self.throws(-13, "'", [], (), "12 a", rest="a", caught="12")
        self.throws(-13, "'", [": w { a }"], (), "a", caught="a")
        self.throws(-13, "'", ["previous"], (), "nope", caught="nope")

    def test_lists(self):
        self.assertEqual(self.leaves("new-list", [], (), "", (2,)).lists.count, 3)
        self.throws(-16, "new-list", ["new-list " * 6])
        self.assertEqual(self.leaves("also", [], (0,), "", ()).lists.order, (0, 1, 0))
        for number in (2, -1, 32767):
            self.throws(-16, "also", [], (number,))
            self.throws(-16, "into", [], (number,))
        self.throws(-16, "also", ["0 also " * 6], (0,))
        self.assertEqual(self.leaves("also", ["0 also " * 5], (1,), "", ()).lists.order, (1,) + (0,) * 5 + (1, 0))
        self.assertEqual(self.leaves("into", [], (0,), "", ()).lists.into, 0)
        self.assertEqual(self.leaves("previous", [], (), "", ()).lists.order, (0,))
        self.throws(-16, "previous", ["previous"])
        system = system_of("new-list into : w ;")
        self.assertEqual((system[FIRST].home, system.lists.into, system.lists.order), (2, 2, (1, 0)))


class Rows(Single):
    """Acts that append instructions."""

    def rows(self, op, lines, stack=(), text="", left=()):
        return self.leaves(op, lines, stack, text, left).opened[-1].rows

    def test_compile(self):
        system = system_of(": sq ; create c : w")
        for number, row in ((0, ("dup", 0)), (KERNEL.index("base"), ("data", 0)), (KERNEL.index("recurse"), ("self,", 0)),
                            (KERNEL.index("run"), ("run,", 0)), (FIRST, ("call", FIRST)), (FIRST + 1, ("call", FIRST + 1))):
            self.assertIsNone(done("compile", system, ((number,),)).failure)
            self.assertEqual(system.opened[-1].rows[-1], row)

    def test_literals_and_addresses(self):
        self.assertEqual(self.rows("literal", OPEN, (-7,)), [("lit", -7)])
        self.assertEqual(self.rows("literal", OPEN, ((3,),)), [("token", 3)])
        for address in (0, 2):
            self.assertEqual(self.rows("address", OPEN, (address,)), [("data", address)])
        for address in (3, -1):
            self.throws(-5, "address", OPEN, (address,))
        self.assertEqual(self.rows("local,", [": w { a b }"], (1,)), [("locals", 2), ("local", 1)])
        for index in (-1, 2, 8):
            self.throws(-12, "local,", [": w { a b }"], (index,))
        self.throws(-12, "local,", OPEN, (0,))
        self.throws(-12, "local,", [": w { a } [:"], (0,))

    def test_compiling(self):
        system = system_of(": w")
        self.assertEqual(done("state", system).stack, (-1,))
        done("[", system)
        self.assertEqual((system.compiling, done("state", system).stack), (False, (0,)))
        done("[", system)
        self.assertIs(system.compiling, False)
        done("]", system)
        self.assertIs(system.compiling, True)
        self.assertEqual(len(system.opened), 1)

    def test_runs_and_catches(self):
        self.assertEqual(self.rows("run,", OPEN, (), "0 8"), [("run", (0, 8))])
        self.assertEqual(self.rows("catch,", OPEN, (), "8 1"), [("catch", 8)])
        for text in ("9 1", "1 9", "x 1", "1", "", "01 1", "-1 1", "1 00"):
            self.throws(-15, "run,", OPEN, (), text)
        self.throws(-15, "run,", OPEN, (), "x y 1 2", rest="1 2")
        for text in ("9", "", "a", "10"):
            self.throws(-15, "catch,", OPEN, (), text)

    def test_is_and_to(self):
        lines = ["defer d 0 0 : w"]
        self.assertEqual(self.rows("is,", lines, (), "d"), [("is", FIRST)])
        self.throws(-14, "is,", lines, (), "", caught="")
        self.throws(-13, "is,", lines, (), "e x", rest="x", caught="e")
        self.throws(-8, "is,", lines, (), "dup x", rest="x", caught="dup")
        self.assertEqual(self.rows("to,", [": w { a b }"], (), "b"), [("locals", 2), ("set", 1)])
        self.throws(-13, "to,", [": w { a b }"], (), "c x", rest="x")
        self.throws(-13, "to,", [": w { a b }"], (), "")
        self.throws(-13, "to,", OPEN, (), "dup")

    def test_names_of_locals(self):
        system = self.leaves("{", OPEN, (), "a bc } d", ())
        self.assertEqual((system.opened[0].names, system.opened[0].rows), (["a", "bc"], [("locals", 2)]))
        self.assertEqual((system.source.column, system.caught), (7, ":"))
        eight = "a b c d e f g h"
        self.assertEqual(len(self.leaves("{", OPEN, (), eight + " }", ()).opened[0].names), 8)
        self.throws(-12, "{", [": w dup"], (), "a }", rest="a }")
        self.throws(-12, "{", [": w { a }"], (), "a }", rest="a }")
        self.throws(-15, "{", OPEN, (), "a b")
        self.throws(-15, "{", OPEN, (), "")
        self.throws(-14, "{", OPEN, (), "a " + "b" * 17 + " c }", rest="c }")
        self.throws(-14, "{", OPEN, (), "a b a c }", rest="c }")
        self.throws(-14, "{", OPEN, (), "} a", rest="a")
        self.throws(-20, "{", OPEN, (), eight + " i j }", rest="j }")
        self.throws(-14, "{", OPEN, (), eight + " a j }", rest="j }")
        self.throws(-14, "{", OPEN, (), eight + " " + "i" * 17 + " }", rest="}")
        self.throws(-15, "{", OPEN, (), eight)
        self.leaves("{", OPEN, (), "a" * 16 + " }", ())

    def test_postpone(self):
        lines = [": sq ; : now ; immediate : w"]
        self.assertEqual(self.rows("postpone", lines, (), "sq"), [("token", FIRST), ("compile", 0)])
        self.assertEqual(self.rows("postpone", lines, (), "dup"), [("token", 0), ("compile", 0)])
        self.assertEqual(self.rows("postpone", lines, (), "now"), [("call", FIRST + 1)])
        self.assertEqual(self.rows("postpone", lines, (), ";"), [(";", 0)])
        self.assertEqual(self.rows("postpone", lines, (), "recurse"), [("self,", 0)])
        self.throws(-14, "postpone", lines, (), "", caught="")
        self.throws(-13, "postpone", lines, (), "12", caught="12")
        self.throws(-13, "postpone", lines, (), "w", caught="w")

    def test_recurse(self):
        self.assertEqual(self.rows("self,", OPEN), [("recurse", 0)])

    def test_marks(self):
        system = system_of(": w dup")
        self.assertEqual(done("<mark", system, (9,)).stack, (9, 1))
        self.assertEqual(done("<mark", system).stack, (1,))
        self.assertEqual(system.opened[0].marks, [1])
        self.assertIsNone(done("<goto", system, (1,)).failure)
        self.assertIsNone(done("<unless", system, (1,)).failure)
        self.assertEqual(system.opened[0].rows, [("dup", 0), ("goto", 1), ("unless", 1)])
        self.assertEqual(done("<mark", system).stack, (3,))
        self.assertEqual(system.opened[0].marks, [1, 3])
        for place in (0, 2, -1, 4):
            self.throws(-12, "<goto", system, (place,))
            self.throws(-12, "<unless", system, (place,))

    def test_gaps(self):
        system = system_of(": w dup")
        self.assertEqual(done("goto>", system, (9,)).stack, (9, 1))
        self.assertEqual(done("unless>", system).stack, (2,))
        self.assertEqual(system.opened[0].rows, [("dup", 0), ("goto", -1), ("unless", -1)])
        self.assertEqual(system.opened[0].gaps, [1, 2])
        self.throws(-12, ";", system)
        for place in (0, 3, -1):
            self.throws(-12, ">land", system, (place,))
        self.assertIsNone(done(">land", system, (1,)).failure)
        self.assertEqual((system.opened[0].rows[1], system.opened[0].gaps), (("goto", 3), [2]))
        self.throws(-12, ">land", system, (1,))
        self.throws(-12, ";", system)
        done("self,", system)
        self.assertIsNone(done(">land", system, (2,)).failure)
        self.assertEqual((system.opened[0].rows[2], system.opened[0].gaps), (("unless", 4), []))
        self.assertIsNone(done(";", system).failure)
        self.assertEqual(system[FIRST].body, ops("dup goto#3 unless#4 recurse exit"))

    def test_marks_belong_to_the_innermost_definition(self):
        system = system_of(": w [ <mark drop goto> drop ] [:")
        self.throws(-12, "<goto", system, (0,))
        self.throws(-12, ">land", system, (0,))

    def filled(self, count, more=""):
        """A system with an open definition of so many instructions."""
        return system_of("defer d 0 0", ": w " + more, *["dup " * 20] * (count // 20), "dup " * (count % 20))

    def test_the_last_instructions(self):
        takes = {"compile": ((0,),), "literal": (1,), "address": (0,), "<goto": (0,), "<unless": (0,)}
        texts = {"run,": "1 1 x", "catch,": "1 x", "is,": "d x", "postpone": "dup x"}
        for op in ("compile literal address self, run, catch, is, postpone <goto <unless goto> unless>").split():
            system = self.filled(118 if op != "postpone" else 117, "[ <mark drop ]")
            self.assertIsNone(done(op, system, takes.get(op, ()), texts.get(op, "")).failure, op)
            self.assertEqual(len(system.opened[0].rows), 119)
            caught = {"is,": "d", "postpone": "dup"}.get(op)
            rest = "x" if op in texts else ""
            self.throws(-20, op, system, takes.get(op, ()), texts.get(op, ""), rest=rest, caught=caught)
        system = self.filled(118, "[ <mark drop ]")
        self.throws(-20, "postpone", system, (), "dup", caught="dup")
        self.assertIsNone(done("postpone", system, (), "recurse").failure)
        self.assertIsNone(done("<mark", system).failure)

    def test_the_last_instructions_of_locals(self):
        system = self.filled(118, "{ a }")
        self.throws(-20, "local,", system, (0,))
        self.throws(-20, "to,", system, (), "a")
        system = self.filled(117, "{ a }")
        self.assertIsNone(done("to,", system, (), "a").failure)
        self.assertEqual(len(system.opened[0].rows), 119)
        self.assertIsNone(done(";", system).failure)
        self.assertEqual(len(system.words[-1].body), 120)

    def test_own_errors_go_ahead_of_too_many(self):
        system = self.filled(119)
        self.throws(-5, "address", system, (-1,))
        self.throws(-12, "local,", system, (0,))
        self.throws(-15, "run,", system, (), "9 9")
        self.throws(-8, "is,", system, (), "dup", caught="dup")
        self.throws(-13, "to,", system, (), "dup")
        self.throws(-12, "<goto", system, (0,))
        self.throws(-12, "{", system, (), "a }", rest="a }")


class Words(Single):
    """Acts that make words."""

    def test_colon(self):
        system = self.leaves(":", [], (), " sq dup", ())
        self.assertEqual((system.opened[0].plain(), system.compiling), (("sq", None, (), (), (), ()), True))
        self.assertEqual((system.source.column, len(system.words), system.caught), (4, FIRST, ""))
        for text in ("", "  ", "a" * 17):
            self.throws(-14, ":", [], (), text)
        self.leaves(":", [], (), "a" * 16, ())
        self.leaves(":", [], (), "a", ())
        self.throws(-11, ":", [": w ["], (), "a", rest="a")

    def test_effects_in_a_text(self):
        for text, declared, rest in (
                ("w ( a b -- c ) d", (2, 1), " d"), ("w ( -- )", (0, 0), ""), ("w ( remark )", None, ""),
                ("w ()", None, "()"), ("w ( )x", None, "x"), ("w   ( --)", (0, 0), ""), ("w x ( -- )", None, "x ( -- )"),
                ("w ( 1 2 3 4 5 6 7 8 -- 1 2 3 4 5 6 7 8 )", (8, 8), ""), ("w ( a --b )", None, ""), ("w", None, ""),
                ("w  ", None, " ")):
            system = self.leaves(":", [], (), text, ())
            self.assertEqual((text, system.opened[0].declared), (text, declared))
            self.assertEqual((text, text[system.source.column:]), (text, rest))
        for text, rest in (
                ("w ( a -- b", "a -- b"), ("w ( -- -- ) x", " x"), ("w ( a -- b -- ) x", " x"),
                ("w ( 1 2 3 4 5 6 7 8 9 -- ) x", " x"), ("w ( -- 1 2 3 4 5 6 7 8 9 ) x", " x"), ("w (", "")):
            self.throws(-15, ":", [], (), text, rest=rest)

    def test_an_effect_on_the_next_line(self):
        session = Session(16)
        self.assertTrue(session.read([": w", "  ( a -- ) drop ;"]))
        self.assertEqual(session.system[FIRST].declared, (1, 0))
        self.assertEqual(session.read([": x (", "a -- )"]).number, -15)

    def test_semicolon(self):
        system = self.leaves(";", [": sq ( n -- m ) dup *"], (), "", ())
        word = system[FIRST]
        self.assertEqual(word.plain(), ("sq", 1, "plain", False, ops("dup * exit"), (1, 1), None, None, None, None))
        self.assertEqual((word.effect, system.opened, system.compiling), ((1, 1), [], False))
        self.throws(-11, ";", [": w [:"])
        self.throws(-12, ";", [": w [ goto> drop ]"])
        self.assertEqual(self.leaves(";", [": w ( -- a )"], (), "", ())[FIRST].verdict.kind, "out")

    def test_quotations(self):
        system = system_of(": w 1 [: dup")
        self.assertEqual([one.plain()[:3] for one in system.opened],
                         [("w", None, (("lit", 1),)), ("", None, (("dup", 0),))])
        self.assertIsNone(done(";]", system).failure)
        self.assertEqual(system[FIRST].plain(), ("", -1, "quote", False, ops("dup exit"), None, None, None, None, None))
        self.assertEqual(system.opened[0].rows, [("lit", 1), ("token", FIRST)])
        self.assertIs(system.compiling, True)
        self.throws(-11, ";]", OPEN)
        self.throws(-12, ";]", [": w [: [ goto> drop ]"])

    def test_quotations_within_quotations(self):
        system = system_of(": w [: 1 [: 2 [: 3")
        self.throws(-20, "[:", system)
        for at in range(3):
            self.assertIsNone(done(";]", system).failure)
        self.throws(-11, ";]", system)
        self.assertIsNone(done(";", system).failure)
        self.assertEqual([word.body for word in system.words[FIRST:]],
                         [ops("lit#3 exit"), ops(f"lit#2 token#{FIRST} exit"), ops(f"lit#1 token#{FIRST + 1} exit"),
                          ops(f"token#{FIRST + 2} exit")])

    def test_a_quotation_while_not_compiling(self):
        system = system_of(": w [ [: 1 literal ;] ] ;")
        self.assertEqual([word.body for word in system.words[FIRST:]], [ops("lit#1 exit"), ops(f"token#{FIRST} exit")])

    def full(self, left, lines):
        """A system with room for so many words more."""
        system = system_of()
        while len(system.words) < 400 - left:
            system.define(ops("exit"))
        session = Session.of(system)
        assert session.read(lines)
        return session.system

    def test_words_too_many(self):
        for op, lines, text in ((";", [": w"], ""), (";]", [": w [:"], ""), ("create", [], "x y"), ("defer", [], "x 1 1 y"),
                                ("marker", [], "x y")):
            system = self.full(1, lines)
            self.assertIsNone(done(op, system, (), text).failure)
            self.assertEqual(len(system.words), 400)
            self.throws(-20, op, self.full(0, lines), (), text, rest=text[-1:])
        self.throws(-12, ";", self.full(0, [": w [ goto> drop ]"]))
        self.throws(-15, "defer", self.full(0, []), (), "x 1 9")
        self.throws(-14, "create", self.full(0, []), (), "")
        # A definition may be opened all the same.
        self.assertIsNone(done(":", self.full(0, []), (), "x").failure)

    def test_the_token_of_a_quotation_may_be_one_instruction_too_many(self):
        lines = [": w", *["dup " * 20] * 5, "dup " * 19]
        self.throws(-20, ";]", [*lines, "[:"])
        lines[-1] = "dup " * 18
        self.assertIsNone(done(";]", system_of(*lines, "[:")).failure)

    def test_create(self):
        system = self.leaves("create", ["3 allot"], (), " c d", ())
        self.assertEqual(system[FIRST].plain(), ("c", 1, "made", False, ops("data#5 exit"), None, 5, None, None, None))
        self.assertEqual((system[FIRST].effect, system.source.column), ((0, 1), 3))
        for text in ("", "a" * 17):
            self.throws(-14, "create", [], (), text)

    def test_behave(self):
        system = self.leaves("behave", ["create c"], ((KERNEL.index("@"),),), "", ())
        self.assertEqual(system[FIRST].plain(), ("c", 1, "made", False, ops("data#2 @ exit"), None, 2,
                                                 KERNEL.index("@"), None, None))
        self.assertEqual(system[FIRST].effect, (0, 1))
        system = self.leaves("behave", [": w + ; create c immediate"], ((FIRST,),), "", ())
        self.assertEqual((system[FIRST + 1].body, system[FIRST + 1].effect, system[FIRST + 1].immediate),
                         (ops(f"data#2 call#{FIRST} exit"), (1, 1), True))
        self.throws(-11, "behave", [], ((0,),))
        self.throws(-11, "behave", [": w ;"], ((0,),))
        self.throws(-11, "behave", ["create c ' @ behave"], ((0,),))
        self.throws(-11, "behave", ["create c"], ((FIRST,),))
        self.throws(-11, "behave", ["create c : w ;"], ((0,),))
        self.throws(-11, "behave", ["defer d 0 1"], ((0,),))

    def test_behave_of_an_action(self):
        lines = ["defer d 0 1 : set is d ; create c ' c set"]
        self.throws(-19, "behave", lines, ((0,),))
        self.throws(-11, "behave", lines, ((FIRST + 2,),))
        self.leaves("behave", ["defer d 0 1 : set is d ; create b ' b set create c"], ((0,),), "", ())

    def test_immediate(self):
        system = system_of(": a ; : b [: ;] ; create c")
        names = [word.name for word in system.words[FIRST:]]
        self.assertEqual(names, ["a", "", "b", "c"])
        self.assertIsNone(done("immediate", system).failure)
        self.assertEqual([word.immediate for word in system.words[FIRST:]], [False, False, False, True])
        self.throws(-11, "immediate", [])
        system.words.pop()
        system.words.pop()
        self.assertIsNone(done("immediate", system).failure)
        self.assertEqual([word.immediate for word in system.words[FIRST:]], [True, False])
        system = system_of("defer d 1 2 immediate")
        self.assertEqual((system[FIRST].immediate, system[FIRST].declared, system[FIRST].effect), (True, (1, 2), (1, 2)))
        system = system_of("marker m immediate")
        self.assertEqual((system[FIRST].immediate, len(system[FIRST].keeps)), (True, 5))

    def test_defer(self):
        system = self.leaves("defer", [], (), "d 0 8 x", ())
        self.assertEqual(system[FIRST].plain(), ("d", 1, "deferred", False, ops("deferred exit"), (0, 8), None, None, None,
                                                 None))
        self.assertEqual((system[FIRST].effect, system.source.column), ((0, 8), 6))
        for text in ("", "a" * 17 + " 1 1"):
            self.throws(-14, "defer", [], (), text, rest="1 1" if text else "")
        for text in ("d 1 9", "d x 1", "d 1", "d"):
            self.throws(-15, "defer", [], (), text)


class Markers(Single):
    def test_what_a_marker_keeps(self):
        system = system_of("defer d 0 0 : w ; : set is d ; ' w set defer e 1 1 5 c, new-list also")
        done("marker", system, (), "m x")
        word = system.words[-1]
        self.assertEqual(word.plain(), ("m", 1, "marker", False, (("forget", 0), ("exit", 0)), None, None, None, None,
                                        (3, (2, 1, 0), 1, (10, 0, 5), (FIRST + 1, None))))
        self.assertEqual((word.effect, word.verdict.kind, system.source.column), (None, "free", 2))
        for text in ("", "a" * 17):
            self.throws(-14, "marker", [], (), text)

    def session(self, *lines, **named):
        session = Session(16, **named)
        outcome = session.read(list(lines))
        self.assertEqual((outcome.kind, outcome.number), ("done", 0))
        return session

    def test_all_that_is_kept_comes_back(self):
        session = self.session("defer d 0 0 : w ; : set is d ; ' w set 5 c,")
        before = session.system
        self.assertTrue(session.read(["marker m new-list dup also into : x ; ' x set 9 c, 7 base ! create c defer e 0 0"]))
        self.assertFalse(session.system == before)
        self.assertTrue(session.read(["previous #10 base ! m"]))
        self.assertEqual(session.system, before)

    def test_lists_come_back(self):
        session = self.session("new-list into new-list drop 0 also 2 also marker m")
        before = (4, (2, 0, 1, 0), 2)
        self.assertTrue(session.read(["new-list also 1 into 2 also m"]))
        lists = session.system.lists
        self.assertEqual((lists.count, lists.order, lists.into), before)

    def test_what_stays(self):
        session = self.session("marker m : w 1 ; 7 65 emit")
        outcome = session.read(["8 66 emit ask m ask . 3"], feed=(1, 2))
        self.assertEqual((outcome.kind, outcome.output, session.stack), ("done", "B2 ", (7, 8, 1, 3)))
        self.assertEqual(session.system.caught, "3")
        self.assertIsNone(session.system.find("w"))

    def test_a_shorter_memory_comes_back(self):
        session = self.session("1 c, 2 c, 3 c, marker m -3 allot m")
        self.assertEqual(session.system.memory.all_bytes(), (10, 0, 1, 2, 3))

    def test_markers_of_markers(self):
        session = self.session("marker a 1 c, marker b 2 c, : w ;")
        self.assertTrue(session.read(["b"]))
        self.assertEqual((session.system.memory.all_bytes(), len(session.system)), ((10, 0, 1), FIRST + 1))
        self.assertTrue(session.read(["a"]))
        self.assertEqual((session.system.memory.all_bytes(), len(session.system)), ((10, 0), FIRST))

    def refused(self, number, session, *lines):
        before = session.system.copy()
        outcome = session.read(list(lines))
        self.assertEqual((outcome.kind, outcome.number), ("error", number))
        self.assertEqual(session.system, before)

    def test_an_open_definition(self):
        self.refused(-11, self.session("marker m immediate"), ": w m")
        self.refused(-11, self.session("marker m : w"), "[ m")

    def test_items_that_refer_to_a_word_that_goes(self):
        session = self.session("marker m : w ; : x ;")
        number = session.system.number_of("m")
        for text in ("' w m", "' m m", "5 ' x 6 m"):
            self.refused(-19, session, text)
        self.assertTrue(session.read(["' dup m"]))
        self.assertEqual(session.stack, ((0,),))
        self.assertEqual(len(session.system), number)

    def test_frames_that_refer_to_a_word_that_goes(self):
        before = ": go perform ; : own >r perform r> drop ; : loc { t } perform t drop ; : kept catch 1 drop drop ;"
        for text in ("' w ' m go", "' m ' w own", "' m ' w loc"):
            self.refused(-19, self.session(before, "marker m : w ;"), text)
        for text in ("' m go", "' m ' dup own", "' m ' dup loc"):
            session = self.session(before, "marker m : w ;")
            outcome = session.read([text])
            self.assertEqual((text, outcome.kind, outcome.number), (text, "done", 0))
            self.assertIsNone(session.system.find("w"))

    def test_kept_items_that_refer_to_a_word_that_goes(self):
        # The kept items of a catch hold the token of w, which is no more on the stack when the marker is run.
        # No word that is let by comes to a marker, so the frames are laid into the machine by hand.
        session = self.session("marker m : w ;")
        system = session.system
        number = system.number_of("m")
        for kept, own, locals_, word, stack, wanted in (
                ((), [], [], 0, (), "done"), (((number,),), [], [], 0, (), -19), (((0,), 5), [], [], 0, (), "done"),
                (None, [(number,)], [], 0, (), -19), (None, [(0,), 5], [], 0, (), "error"),
                (None, [], [(number + 1,)], 0, (), -19), (None, [], [(1,), 3], 0, (), "done"),
                (None, [], [], number + 1, (), -19), (None, [], [], number, (), -19), (None, [], [], 0, ((number,),), -19),
                (None, [], [], 0, ((number - 1,),), "done")):
            copy = system.copy()
            machine = Machine(copy, word, stack=stack, actions=full_actions())
            frame = machine.calls[0]
            frame.place = 1
            frame.kept, frame.own, frame.locals = kept, own, locals_
            machine.calls.append(frame.copy())
            machine.calls[1].number = number
            machine.calls[1].place = 0
            machine.calls[1].own = []
            # What the marker's own frame holds does not count.
            machine.calls[1].locals = [(number,)]
            machine.calls[1].kept = None
            machine.step()
            if wanted == -19:
                self.assertEqual((len(copy), copy), (len(system), system))
                if kept is None:
                    self.assertEqual((machine.kind, machine.number), ("error", -19))
                else:
                    self.assertEqual(machine.stack, (*kept, -19))
            else:
                self.assertEqual((machine.kind, len(copy), machine.at()), ("runs", number, (word, 1)))

    def test_the_markers_frame_ends(self):
        session = self.session(": go perform 3 ; marker m")
        outcome = session.read(["1"])
        self.assertTrue(outcome)
        system = session.system
        system.words.append(system.words[-1].__class__("", 1, "plain", False, (("call", FIRST + 1), ("exit", 0)), None,
                                                       system.words[-1].verdict))
        machine = Machine(system.copy(), FIRST + 1, stack=(4,), actions=full_actions())
        self.assertEqual((machine.step(), machine.steps, machine.stack, machine.at()), ("done", 1, (4,), None))
        self.assertEqual(len(machine.store), FIRST + 1)
        # A word that called the marker is younger than it, and goes too: that is held.
        machine = Machine(system.copy(), FIRST + 2, actions=full_actions())
        machine.go(9)
        self.assertEqual((machine.kind, machine.number), ("error", -19))
        # With kept items 0 is left, as by exit.
        machine = Machine(system.copy(), FIRST + 1, stack=(4,), actions=full_actions())
        machine.calls[0].kept = (4,)
        machine.step()
        self.assertEqual((machine.kind, machine.stack), ("done", (4, 0)))

    def test_without_building_acts(self):
        system = self.session("marker m").system
        machine = Machine(system, FIRST)
        self.assertEqual((machine.step(), machine.number, len(system)), ("error", -11, FIRST + 1))

    def test_the_same_error_in_a_caught_run(self):
        session = self.session("marker m : w ;", ": bad perform ;")
        outcome = session.read(["5 ' w ' m bad"])
        self.assertEqual((outcome.kind, outcome.number), ("error", -19))


class Caught(Case):
    def test_what_was_read_stays_read_behind_a_caught_error(self):
        session = Session(16)
        outcome = session.read([": t [: ' drop ;] catch 0 ;", "t nope 7"])
        self.assertEqual((outcome.kind, outcome.number), ("done", 0))
        self.assertEqual(session.stack, (-13, 7))
        outcome = session.read([": p [: 41 parse drop ;] catch 0 ; p a b) p x", "1"])
        self.assertEqual((outcome.kind, session.stack), ("error", (-13, 7)))
        self.assertEqual((outcome.line, outcome.column), (0, 43))

    def test_words_that_were_made_stay_behind_a_caught_error(self):
        session = Session(16)
        outcome = session.read([": t [: create 5 throw ;] catch 0 ;", "t c c"])
        self.assertEqual((outcome.kind, session.stack), ("done", (5, 2)))


if __name__ == "__main__":
    import unittest
    unittest.main()
