"""The judge: it lets made code by, and tells the first row that breaks what is asked of it."""

import random

from tests import drawn, reference
from tests import judge as plain
from tests.helpers import Case, ops, store_of
from wordmint.caching import made
from wordmint.code import is_row
from wordmint.errors import BadRegisters, NotChecked, NoWord
from wordmint.judging import judge
from wordmint.session import Session
from wordmint.stores import Store

R0, R1, R2 = ("reg", 0), ("reg", 1), ("reg", 2)


def lit(number):
    return ("lit", number)


class Errors(Case):
    def test_in_their_order(self):
        store = store_of("dup exit", "unless#2 lit#1 exit")
        rows, paper = made(store, 0, 4)
        for number in (-1, 2, True, None, "0"):
            self.fails(NoWord, number, judge, store, number, None, None, 1)
        self.fails(NotChecked, 1, judge, store, 1, None, None, 1)
        for registers in (1, 9, 0, -1, True, None, "4", (4,)):
            self.fails(BadRegisters, registers, judge, store, 0, None, None, registers)
            self.fails(BadRegisters, registers, judge, store, 0, rows, paper, registers)
        self.assertIsNone(judge(store, 0, rows, paper, 4))


class Good(Case):
    def test_made_code_of_drawn_words(self):
        luck = random.Random(51)
        for turn in range(40):
            store = drawn.drawn_store(luck, luck.choice((16, 24, 32))) if turn % 3 else reference.some_store(luck)
            for number, word in enumerate(store):
                if word.effect is not None:
                    for registers in range(2, 9):
                        rows, paper = made(store, number, registers)
                        self.assertIsNone(judge(store, number, rows, paper, registers), word.body)
                        # More registers do no harm, and a register that is not there does.
                        self.assertIsNone(judge(store, number, rows, paper, 8))
                        used = [arg for row in rows for op, arg in plain.sources_of(row) if op == "reg"]
                        if used and max(used) >= 2:
                            self.assertIsNotNone(judge(store, number, rows, paper, 2))

    def test_made_code_of_systems(self):
        session = Session(16)
        session.read([": constant create , [: @ ;] behave ; 5 constant five : w five five + . ; defer d 2 1"])
        system = session.system
        for number, word in enumerate(system):
            if word.effect is not None:
                rows, paper = made(system, number, 3)
                self.assertIsNone(judge(system, number, rows, paper, 3), word.name)

    def test_changed_code_is_judged_as_the_point_says(self):
        luck = random.Random(52)
        told = {True: 0, False: 0}
        for turn in range(30):
            store = drawn.drawn_store(luck) if turn % 3 else reference.some_store(luck)
            for registers in (2, 4):
                codes = {number: made(store, number, registers) for number, word in enumerate(store)
                         if word.effect is not None}
                pool = [pair for rows, paper in codes.values() for pair in zip(rows, paper)]
                for number, (rows, paper) in codes.items():
                    for _ in range(15):
                        changed = self.changed(luck, rows, paper, registers, pool)
                        verdict = judge(store, number, *changed, registers)
                        self.assertEqual(verdict, self.plain_verdict(store, number, *changed, registers), changed)
                        told[verdict is None] += 1
        self.assertGreater(told[True], 100)
        self.assertGreater(told[False], 1000)

    def plain_verdict(self, store, number, rows, paper, registers):
        """The verdict of the plain judge, to which all rows are shown in a form that it knows."""
        other = plain.Judge(store, number, rows, paper, registers)
        for at, row in enumerate(rows):
            if not is_row(row, registers, len(rows)) or not other.good_row(at):
                return at
        return None

    def changed(self, luck, rows, paper, registers, pool):
        rows, paper = list(rows), list(paper)
        for _ in range(luck.choice((1, 1, 2))):
            at, lot = luck.randrange(len(rows)), luck.randrange(7)
            if lot == 0:
                rows[at] = luck.choice(pool)[0]
            elif lot == 1:
                paper[at] = luck.choice(pool)[1]
            elif lot == 2 and len(rows) > 1:
                del rows[at], paper[at]
            elif lot == 3:
                row, entry = luck.choice(pool)
                rows.insert(at, row)
                paper.insert(at, entry)
            elif lot == 4:
                paper[at] = (paper[at][0] + luck.choice((-1, 1)), paper[at][1])
            elif lot == 5:
                rows.insert(at, ("goto", at + 1))
                paper.insert(at, paper[at])
            else:
                layout = list(paper[at][1])
                layout.insert(luck.randint(0, len(layout)), luck.choice((("reg", luck.randrange(registers)), lit(1))))
                paper[at] = (paper[at][0], tuple(layout))
        return tuple(rows), tuple(paper)


class Base(Case):
    def judged(self, text, rows, paper, registers=4, declared=None, older=()):
        """The verdict about code for a body, over older words."""
        store = store_of(*older)
        number = store.define(ops(text), declared=declared)
        self.assertIsNotNone(store[number].effect, text)
        return judge(store, number, rows, paper, registers)

    def good(self, *args, **named):
        self.assertIsNone(self.judged(*args, **named))

    def bad(self, at, *args, **named):
        self.assertEqual(self.judged(*args, **named), at)


class Forms(Base):
    def test_code_and_paper_that_are_none(self):
        rows, paper = (("exit",),), ((0, ()),)
        self.good("exit", rows, paper)
        for wrong in (None, [], (), list(rows), 0, "exit", {}):
            self.bad(0, "exit", wrong, paper)
        for wrong in (None, [], (), list(paper), 0):
            self.bad(0, "exit", rows, wrong)
        self.bad(0, "exit", (), ())
        self.bad(0, "exit", rows * 2, paper)
        self.bad(0, "exit", rows, paper * 2)
        # Which row is bad besides does not matter then.
        self.bad(0, "lit#1 exit", (("spill", lit(1)), ("exit",), None), ((0, ()), (1, ())))

    def test_rows_of_no_form(self):
        for row in (None, True, 1, "exit", [], (), ["exit"], ("exit", 0), ("exit", ()), ("leave",), (None,), ("plain", "exit", 0),
                    ("plain", "goto", 0), ("plain", "unless", 0), ("plain", "call", 0), ("plain", "jump", 0), ("goto",)):
            self.bad(0, "exit", (row,), ((0, ()),))
            self.bad(1, "lit#1 exit", (("spill", lit(1)), row), ((0, ()), (1, ())))

    def test_rows_of_a_form_with_wrong_parts(self):
        paper = ((0, ()), (1, ()))
        self.good("lit#1 exit", (("spill", lit(1)), ("exit",)), paper)
        for source in (lit(True), lit(None), ["lit", 1], ("lit",), ("lit", 1, 0), ("reg", 4), ("reg", -1), ("reg", True), 1, None):
            self.bad(0, "lit#1 exit", (("spill", source), ("exit",)), paper)
        fills = ((0, ()), (0, (R0,)), (0, ()))
        self.good("exit", (("fill", 0), ("spill", R0), ("exit",)), fills, declared=(1, 1))
        for slot in (4, -1, True, None, (0,), "0"):
            self.bad(0, "exit", (("fill", slot), ("spill", R0), ("exit",)), fills, declared=(1, 1))
        for target in (3, -1, True, None, "1"):
            self.bad(0, "goto#0", (("goto", target),), ((0, ()),))
        self.bad(0, "goto#0", (("goto", False),), ((0, ()),))
        self.good("goto#0", (("goto", 0),), ((0, ()),))

    def test_entries_of_no_form(self):
        rows = (("spill", lit(1)), ("exit",))
        for entry in (None, True, 1, [1, ()], (1,), (1, (), ()), (True, ()), (None, ()), (1, []), (1, None), ((), 1), "1", (-1, ()),
                      (2, ()), (1, (1,)), (1, (["lit", 1],)), (1, (lit(True),)), (1, (("reg", 4),)), (1, (None,))):
            # The row ahead looks at the entry, too, so it is the first bad one.
            self.bad(0, "lit#1 exit", rows, ((0, ()), entry))
        for entry in (None, True, [0, ()], (0,), (0, (), ()), (False, ()), (0, []), (0, (lit(1),)), (1, ()), (-1, ())):
            self.bad(0, "lit#1 exit", rows, (entry, (1, ())))

    def test_a_bad_entry_that_no_row_looks_at(self):
        rows = (("exit",), ("exit",), ("exit",))
        self.good("exit", rows, ((0, ()),) * 3)
        self.bad(2, "exit", rows, ((0, ()), (0, ()), (0, [])))
        self.bad(1, "exit", rows, ((0, ()), None, (0, [])))

    def test_a_bad_entry_that_another_row_looks_at(self):
        rows = (("goto", 2), ("exit",), ("exit",))
        self.good("exit", rows, ((0, ()),) * 3)
        for entry in (None, (0, []), (7, ()), (0, (lit(True),))):
            self.bad(0, "exit", rows, ((0, ()), (0, ()), entry))
        rows = (("fill", 0), ("unless", R0, 3), ("exit",), ("exit",))
        paper = ((0, ()), (0, (R0,)), (1, ()), (1, ()))
        self.good("unless#1 exit", rows, paper)
        self.bad(1, "unless#1 exit", rows, (*paper[:3], (1, None)))
        self.bad(1, "unless#1 exit", rows, (*paper[:3], (2, ())))

    def test_places_to_which_the_walk_does_not_come(self):
        rows = (("goto", 1), ("exit",), ("exit",))
        self.good("goto#2 lit#1 exit", rows, ((0, ()), (2, ()), (2, ())))
        self.bad(2, "goto#2 lit#1 exit", rows, ((0, ()), (2, ()), (1, ())))
        self.bad(0, "goto#2 lit#1 exit", rows, ((0, ()), (1, ()), (2, ())))

    def test_the_first_bad_row_is_told(self):
        rows = (("spill", lit(1)), ("spill", lit(2)), ("exit",))
        paper = ((0, ()), (1, ()), (2, ()))
        self.good("lit#1 lit#2 exit", rows, paper)
        self.bad(0, "lit#1 lit#2 exit", (("spill", lit(2)), None, None), paper)
        self.bad(1, "lit#1 lit#2 exit", (rows[0], None, None), paper)
        self.bad(1, "lit#1 lit#2 exit", (rows[0], ("spill", lit(1)), ("goto", 9)), paper)
        self.bad(2, "lit#1 lit#2 exit", (rows[0], rows[1], ("goto", 9)), paper)
        self.bad(0, "lit#1 lit#2 exit", (None, rows[1], rows[2]), paper)

    def test_the_entry_of_row_0(self):
        self.bad(0, "lit#1 exit", (("exit",),), ((1, ()),))
        self.bad(0, "lit#1 drop exit", (("exit",),), ((0, (lit(1),)),))


class Moves(Base):
    def test_spill(self):
        paper = ((0, ()), (2, (lit(2),)), (2, ()))
        rows = (("spill", lit(1)), ("spill", lit(2)), ("exit",))
        self.good("lit#1 lit#2 exit", rows, paper)
        self.good("lit#1 lit#2 exit", rows, ((0, ()), (1, ()), (2, ())))
        # Not the first one of the layout; not there at all; another layout than what is left.
        self.bad(0, "lit#1 lit#2 exit", (("spill", lit(2)), *rows[1:]), paper)
        self.bad(0, "lit#1 lit#2 exit", rows, ((0, ()), (2, (lit(1),)), (2, ())))
        self.bad(0, "lit#1 lit#2 exit", rows, ((0, ()), (2, (lit(1), lit(2))), (2, ())))
        self.bad(0, "exit", (("spill", lit(1)), ("exit",)), ((0, ()), (0, ())))
        # A place behind that ahead of the row, or with something else than layout steps between.
        self.bad(1, "lit#1 lit#2 exit", rows, ((0, ()), (2, (lit(2),)), (1, ())))
        self.bad(1, "lit#1 here exit", (("spill", lit(1)), ("spill", R0), ("exit",)), ((0, ()), (1, ()), (2, ())))
        self.bad(0, "lit#1 exit", rows[:1], ((0, ()),))

    def test_layout_steps_that_lack_items(self):
        self.bad(0, "dup exit", (("spill", R0), ("exit",)), ((0, ()), (1, ())))
        self.bad(1, "swap exit", (("fill", 0), ("spill", R0), ("exit",)), ((0, ()), (0, (R0,)), (1, ())))
        rows = (("fill", 0), ("fill", 1), ("spill", R0), ("spill", R1), ("exit",))
        self.good("swap exit", rows, ((0, ()), (0, (R0,)), (0, (R1, R0)), (1, (R1,)), (1, ())))

    def test_fill(self):
        rows = (("fill", 0), ("fill", 1), ("do", "+", (R1, R0), 0), ("spill", R0), ("exit",))
        paper = ((0, ()), (0, (R0,)), (0, (R1, R0)), (1, (R0,)), (1, ()))
        self.good("+ exit", rows, paper)
        # The register is in the layout already; the layout is another one.
        self.bad(1, "+ exit", (rows[0], ("fill", 0), *rows[2:]), paper)
        self.bad(1, "+ exit", rows, (*paper[:2], (0, (R0, R1)), *paper[3:]))
        self.bad(0, "+ exit", rows, (paper[0], (0, ()), *paper[2:]))
        self.bad(0, "+ exit", rows, (paper[0], (0, (R1,)), *paper[2:]))
        self.bad(0, "exit", (("fill", 0),), ((0, ()),), declared=(1, 1))

    def test_fill_takes_no_more_than_there_must_be(self):
        rows = (("fill", 0), ("spill", R0), ("exit",))
        paper = ((0, ()), (0, (R0,)), (0, ()))
        self.good("exit", rows, paper, declared=(1, 1))
        self.bad(0, "exit", rows, paper)
        self.bad(0, "exit", rows, paper, declared=(0, 0))
        # Behind here the depth is one.
        rows = (("do", "here", (), 1), ("spill", R1), ("fill", 0), ("spill", R0), ("exit",))
        self.good("here exit", rows, ((0, ()), (1, (R1,)), (1, ()), (1, (R0,)), (1, ())))
        rows = (*rows[:3], ("fill", 1), ("spill", R1), ("spill", R0), ("exit",))
        paper = ((0, ()), (1, (R1,)), (1, ()), (1, (R0,)), (1, (R1, R0)), (1, (R0,)), (1, ()))
        self.bad(3, "here exit", rows, paper)
        self.good("here exit", rows, paper, declared=(1, 2))
        # Behind drop the depth is one less.
        rows = (("fill", 0), ("fill", 1), ("spill", R1), ("exit",))
        paper = ((0, ()), (1, ()), (1, (R1,)), (1, ()))
        self.bad(0, "drop exit", rows, paper)
        paper = ((0, ()), (0, (R0,)), (1, (R1,)), (1, ()))
        self.bad(1, "drop exit", rows, paper)
        self.good("drop exit", rows, paper, declared=(2, 1))

    def test_put(self):
        rows = (("put", 0, lit(1)), ("spill", R0), ("exit",))
        paper = ((0, ()), (1, (R0,)), (1, ()))
        self.good("lit#1 exit", rows, paper)
        self.bad(0, "lit#1 exit", (("put", 0, lit(2)), *rows[1:]), paper)
        self.bad(0, "lit#1 exit", rows, ((0, ()), (1, (lit(1),)), (1, ())))
        self.bad(0, "lit#1 exit", rows[:1], paper[:1])
        # It is put for each such source, and the register must not be in the layout.
        rows = (("put", 0, lit(1)), ("put", 1, R0), ("spill", R1), ("spill", lit(2)), ("spill", R1), ("exit",))
        paper = ((0, ()), (3, (R0, lit(2), R0)), (3, (R1, lit(2), R1)), (3, (lit(2), R1)), (3, (R1,)), (3, ()))
        self.good("lit#1 lit#2 lit#1 exit", rows, paper)
        self.bad(0, "lit#1 lit#2 lit#1 exit", rows, (paper[0], (3, (R0, lit(2), lit(1))), *paper[2:]))
        self.bad(1, "lit#1 lit#2 lit#1 exit", (rows[0], ("put", 0, R0), *rows[2:]), (*paper[:2], paper[1], *paper[3:]))
        self.bad(1, "lit#1 lit#2 lit#1 exit", (rows[0], ("put", 0, lit(2)), *rows[2:]), paper)


class Gotos(Base):
    def test_forward(self):
        rows = (("goto", 2), ("exit",), ("spill", lit(1)), ("exit",))
        self.good("lit#1 exit", rows, ((0, ()), (1, ()), (1, (lit(1),)), (1, ())))
        self.good("lit#1 exit", rows, ((0, ()), (1, ()), (0, ()), (1, ())))
        self.bad(0, "lit#1 exit", rows, ((0, ()), (1, ()), (1, ()), (1, ())))
        self.bad(0, "lit#1 exit", rows, ((0, ()), (1, ()), (1, (lit(2),)), (1, ())))

    def test_back_and_to_its_own_row(self):
        # Only as the body goes back, too.
        self.bad(0, "lit#1 exit", (("goto", 0), ("exit",)), ((0, ()), (1, ())))
        self.bad(1, "lit#1 exit", (("spill", lit(1)), ("goto", 1), ("exit",)), ((0, ()), (1, ()), (1, ())))
        self.bad(1, "lit#1 exit", (("spill", lit(1)), ("goto", 0), ("exit",)), ((0, ()), (1, ()), (1, ())))
        self.good("goto#0", (("goto", 0),), ((0, ()),))
        self.good("goto#1 goto#0", (("goto", 1), ("goto", 0)), ((0, ()), (1, ())))
        self.good("lit#1 drop goto#0", (("goto", 0),), ((0, ()),))
        self.bad(0, "lit#1 exit", (("goto", 0),), ((0, ()),))

    def test_as_a_goto_of_the_body(self):
        rows = (("goto", 1), ("spill", lit(1)), ("exit",))
        self.good("lit#1 goto#3 exit exit", rows, ((0, ()), (3, (lit(1),)), (3, ())))
        self.bad(0, "lit#1 goto#3 exit exit", rows, ((0, ()), (3, ()), (3, ())))
        self.bad(0, "lit#1 goto#3 exit exit", rows, ((0, ()), (2, (lit(1),)), (3, ())))
        # Up to the goto alone.
        self.good("lit#1 goto#3 exit exit", (("goto", 1), ("goto", 2), *rows[1:]),
                  ((0, ()), (1, (lit(1),)), (3, (lit(1),)), (3, ())))
        self.bad(0, "lit#1 here goto#3 exit", (("goto", 1), ("spill", lit(1)), ("exit",)), ((0, ()), (3, (lit(1),)), (3, ())))

    def test_through_goto_after_goto(self):
        rows = (("goto", 1), ("exit",))
        self.good("goto#2 exit goto#1", (("goto", 1), ("goto", 2), ("exit",)), ((0, ()), (2, ()), (1, ())))
        self.bad(0, "goto#2 exit goto#1", rows, ((0, ()), (1, ())))
        # Not behind the place of a goto either.
        self.bad(0, "goto#1 lit#1 exit", (("goto", 1), ("exit",)), ((0, ()), (2, (lit(1),))))

    def test_layout_steps_that_lack_items(self):
        self.bad(0, "dup drop goto#0", (("goto", 0),), ((0, ()),))

    def test_a_row_that_is_not_there(self):
        self.bad(0, "goto#0", (("goto", 1),), ((0, ()),))


class Ends(Base):
    def test_exit(self):
        self.good("lit#1 drop exit", (("exit",),), ((0, ()),))
        self.bad(0, "lit#1 exit", (("exit",),), ((0, ()),))
        self.bad(0, "dup drop exit", (("exit",),), ((0, ()),))
        self.bad(0, "here exit", (("exit",),), ((0, ()),))
        self.bad(0, "goto#1 exit", (("exit",),), ((0, ()),))
        self.bad(0, "jump#0", (("exit",),), ((0, ()),), older=("exit",))
        self.good("lit#1 exit", (("spill", lit(1)), ("exit",), ("exit",)), ((0, ()), (1, ()), (1, ())))
        self.bad(2, "lit#1 exit", (("spill", lit(1)), ("exit",), ("exit",)), ((0, ()), (1, ()), (0, ())))

    def test_jump(self):
        older = ("exit", "exit")
        self.good("lit#1 drop jump#1", (("jump", 1),), ((0, ()),), older=older)
        self.bad(0, "lit#1 drop jump#1", (("jump", 0),), ((0, ()),), older=older)
        self.bad(0, "lit#1 jump#1", (("jump", 1),), ((0, ()),), older=older)
        self.bad(0, "exit", (("jump", 1),), ((0, ()),), older=older)
        self.bad(0, "call#1 exit", (("jump", 1),), ((0, ()),), older=older)
        self.bad(0, "jump#1", (("call", 1), ("exit",)), ((0, ()), (0, ())), older=older)

    def test_a_call_of_a_word_without_a_row(self):
        older = ("goto#0", "exit")
        # The code ends there: no entry is looked at behind it.
        self.good("call#0 exit", (("call", 0),), ((0, ()),), older=older)
        self.good("lit#1 drop call#0 exit", (("call", 0), ("call", 0)), ((0, ()), (2, ())), older=older)
        self.bad(0, "lit#1 call#0 exit", (("call", 0),), ((0, ()),), older=older)
        self.bad(0, "call#0 exit", (("call", 1), ("exit",)), ((0, ()), (0, ())), older=older)
        self.bad(0, "call#1 exit", (("call", 0),), ((0, ()),), older=older)
        self.bad(0, "call#1 exit", (("call", 1),), ((0, ()),), older=older)
        self.good("call#1 exit", (("call", 1), ("exit",)), ((0, ()), (1, ())), older=older)

    def test_calls_of_words_that_are_not_there_or_refused(self):
        older = ("unless#2 lit#1 exit", "exit")
        for number in (0, 2, 3, 399):
            self.bad(0, "call#1 exit", (("call", number), ("exit",)), ((0, ()), (1, ())), older=older)
            self.bad(0, "jump#1", (("jump", number),), ((0, ()),), older=older)
        self.bad(0, "call#1 exit", (("call", 400), ("exit",)), ((0, ()), (1, ())), older=older)

    def test_a_recurse_of_a_word_without_a_row(self):
        rows = (("plain", "recurse", 0),)
        self.good("recurse exit", rows, ((0, ()),), declared=(0, 0))
        self.bad(0, "lit#1 recurse exit", rows, ((0, ()),), declared=(0, 0))
        self.bad(0, "goto#0 recurse exit", rows, ((0, ()),), declared=(0, 0))
        # With a row it leads on.
        text = "here unless#3 recurse exit"
        rows = (("do", "here", (), 0), ("unless", R0, 3), ("plain", "recurse", 0), ("exit",))
        paper = ((0, ()), (1, (R0,)), (2, ()), (3, ()))
        self.good(text, rows, paper, declared=(0, 0))
        rows = (*rows[:2], ("goto", 4), ("exit",), ("plain", "recurse", 0))
        self.bad(4, text, rows, (*paper, (2, ())), declared=(0, 0))
        self.good(text, (*rows, ("exit",)), (*paper, (2, ()), (3, ())), declared=(0, 0))


class Acts(Base):
    def test_do(self):
        rows = (("fill", 0), ("fill", 1), ("do", "-", (R1, R0), 2), ("spill", R2), ("exit",))
        paper = ((0, ()), (0, (R0,)), (0, (R1, R0)), (1, (R2,)), (1, ()))
        self.good("- exit", rows, paper)
        for row in (("do", "+", (R1, R0), 2), ("do", "-", (R0, R1), 2), ("do", "-", (R1,), 2), ("do", "-", (R1, R2), 2),
                    ("do", "-", (R1, R0), 3), ("do", "-", (R1, R0), -1), ("do", "-", [R1, R0], 2), ("do", "-", (R1, R0), True)):
            self.bad(2, "- exit", (*rows[:2], row, *rows[3:]), paper)
        for entry in ((1, ()), (1, (R2, R2)), (1, (R0,)), (0, (R2,))):
            self.bad(2, "- exit", rows, (*paper[:3], entry, paper[4]))
        self.bad(2, "- exit", rows[:3], paper[:3])

    def test_do_with_what_is_left(self):
        text = "lit#7 swap invert exit"
        rows = (("fill", 0), ("do", "invert", (R0,), 0), ("spill", lit(7)), ("spill", R0), ("exit",))
        paper = ((0, ()), (0, (R0,)), (3, (lit(7), R0)), (3, (R0,)), (3, ()))
        self.good(text, rows, paper)
        self.bad(1, text, rows, (*paper[:2], (3, (R0, lit(7))), *paper[3:]))
        self.bad(1, text, rows, (*paper[:2], (3, (R0,)), *paper[3:]))
        # The register that is given must not be in what is left.
        text = "dup invert exit"
        rows = (("fill", 0), ("do", "invert", (R0,), 0), ("spill", R0), ("spill", R0), ("exit",))
        paper = ((0, ()), (0, (R0,)), (2, (R0, R0)), (2, (R0,)), (2, ()))
        self.bad(1, text, rows, paper)
        rows = (rows[0], ("do", "invert", (R0,), 1), rows[2], ("spill", R1), rows[4])
        self.good(text, rows, ((0, ()), (0, (R0,)), (2, (R0, R1)), (2, (R1,)), (2, ())))

    def test_do_without_a_result(self):
        rows = (("do", ".", (lit(5),), -1), ("exit",))
        self.good("lit#5 . exit", rows, ((0, ()), (2, ())))
        self.bad(0, "lit#5 . exit", rows, ((0, ()), (2, (R0,))))
        self.bad(0, "lit#5 . exit", (("do", ".", (lit(5),), 0), rows[1]), ((0, ()), (2, (R0,))))
        self.bad(0, "lit#5 . exit", rows, ((0, ()), (1, ())))

    def test_the_place_ahead_of_the_next_one(self):
        self.good("here drop exit", (("do", "here", (), 0), ("exit",)), ((0, ()), (1, (R0,))))
        self.bad(0, "here drop exit", (("do", "here", (), 0), ("exit",)), ((0, ()), (2, ())))
        self.bad(0, "here here + exit", (("do", "here", (), 0), ("exit",)), ((0, ()), (2, (R0,))))
        self.bad(0, "exit", (("do", "here", (), 0), ("exit",)), ((0, ()), (0, (R0,))))

    def test_throw_keep_back_look(self):
        text = ">r r@ throw r> exit"
        rows = (("fill", 0), ("keep", R0), ("look", 1), ("throw", R1), ("back", 2), ("spill", R2), ("exit",))
        paper = ((0, ()), (0, (R0,)), (1, ()), (2, (R1,)), (3, ()), (4, (R2,)), (4, ()))
        self.good(text, rows, paper)
        for at, row in ((1, ("throw", R0)), (1, ("keep", R1)), (2, ("back", 1)), (2, ("look", 2)), (3, ("keep", R1)),
                        (3, ("throw", R0)), (4, ("look", 2)), (4, ("back", 1))):
            self.bad(at, text, (*rows[:at], row, *rows[at + 1:]), paper)
        self.bad(2, text, rows, (*paper[:3], (2, ()), *paper[4:]))
        # Registers of what is left are not given.
        rows = (("fill", 0), ("fill", 1), ("keep", R0), ("look", 1), ("spill", R1), ("spill", R1), ("back", 0), ("exit",))
        paper = ((0, ()), (0, (R0,)), (0, (R1, R0)), (1, (R1,)), (2, (R1, R1)), (2, (R1,)), (2, ()), (3, ()))
        self.bad(3, ">r r@ r> exit", rows, paper, declared=(2, 3))

    def test_locals(self):
        text = "locals#2 local#1 set#0 local#0 exit"
        rows = (("fill", 0), ("fill", 1), ("locals", (R1, R0)), ("local", 1, 2), ("set", 0, R2), ("local", 0, 0), ("spill", R0), ("exit",))
        paper = ((0, ()), (0, (R0,)), (0, (R1, R0)), (1, ()), (2, (R2,)), (3, ()), (4, (R0,)), (4, ()))
        self.good(text, rows, paper)
        for at, row in ((2, ("locals", (R0, R1))), (2, ("locals", (R0,))), (2, ("locals", ())), (2, ("locals", [R1, R0])),
                        (3, ("local", 0, 2)), (3, ("local", 1, 1)), (3, ("local", 8, 2)), (4, ("set", 1, R2)), (4, ("set", 0, R1))):
            self.bad(at, text, (*rows[:at], row, *rows[at + 1:]), paper)

    def test_unless(self):
        text = "lit#3 swap unless#4 exit exit"
        rows = (("fill", 0), ("unless", R0, 4), ("spill", lit(3)), ("exit",), ("spill", lit(3)), ("exit",))
        paper = ((0, ()), (0, (R0,)), (3, (lit(3),)), (3, ()), (4, (lit(3),)), (4, ()))
        self.good(text, rows, paper)
        for entry in ((4, ()), (3, (lit(3),)), (4, (lit(2),))):
            self.assertIsNotNone(self.judged(text, rows, (*paper[:4], entry, paper[5])))
        self.bad(1, text, rows, (*paper[:2], (3, ()), *paper[3:]))
        self.bad(1, text, (rows[0], ("unless", R1, 4), *rows[2:]), paper)
        self.bad(1, text, (rows[0], ("unless", R0, 2), *rows[2:]), paper)
        self.bad(1, text, (rows[0], ("unless", R0, 6), *rows[2:]), paper)
        self.bad(1, text, (rows[0], ("unless", R0), *rows[2:]), paper)
        # It may lead back, and to where the next place leads, too.
        self.good("here unless#0 exit", (("do", "here", (), 0), ("unless", R0, 0), ("exit",)), ((0, ()), (1, (R0,)), (2, ())))
        self.good("here unless#2 exit", (("do", "here", (), 0), ("unless", R0, 2), ("exit",)), ((0, ()), (1, (R0,)), (2, ())))

    def test_call(self):
        older = ("dup exit", "exit")
        self.good("call#1 exit", (("call", 1), ("exit",)), ((0, ()), (1, ())), older=older)
        self.bad(0, "call#1 exit", (("call", 0), ("exit",)), ((0, ()), (1, ())), older=older)
        # Nothing may be in the layout, ahead of it or behind it.
        self.good("lit#5 call#0 exit", (("spill", lit(5)), ("call", 0), ("exit",)), ((0, ()), (1, ()), (2, ())), older=older)
        self.bad(0, "lit#5 call#0 exit", (("call", 0), ("exit",)), ((0, ()), (2, ())), older=older)
        self.bad(1, "lit#5 call#0 exit", (("goto", 1), ("call", 0), ("exit",)), ((0, ()), (1, (lit(5),)), (2, ())), older=older)
        self.bad(0, "call#1 exit", (("call", 1), ("spill", R0), ("exit",)), ((0, ()), (1, (R0,)), (1, ())), older=older)
        self.bad(0, "call#1 exit", (("call", 1), ("exit",)), ((0, ()), (0, ())), older=older)

    def test_plain(self):
        for op, arg in (("+", 0), ("dup", 0), ("rot", 0), ("lit", 3), ("type", 0), ("r@", 0), ("throw", 0), ("lookup", 0), ("run", (1, 1)),
                        ("catch", 0), ("token", 0)):
            text = {"run": "token#0 run#1,1", "catch": "token#0 catch#0", "r@": ">r r@ r>", "lit": "lit#3", "token": "token#0"}.get(op, op)
            store = store_of("dup drop exit")
            number = store.define(ops(text + " exit"))
            body = store[number].body
            rows = tuple(("plain",) + row for row in body[:-1]) + (("exit",),)
            paper = tuple((place, ()) for place in range(len(body)))
            self.assertIsNone(judge(store, number, rows, paper, 2), text)
            wrong = rows[:-2] + (("plain", op, 0 if arg else 1),) + rows[-1:]
            self.assertEqual(judge(store, number, wrong, paper, 2), len(rows) - 2)
        self.bad(0, "lit#5 + exit", (("plain", "+", 0), ("exit",)), ((0, ()), (2, ())))
        self.bad(1, "lit#5 . exit", (("goto", 1), ("plain", ".", 0), ("exit",)), ((0, ()), (1, (lit(5),)), (2, ())))
        self.bad(0, "+ exit", (("plain", "+", 0), ("spill", R0), ("exit",)), ((0, ()), (1, (R0,)), (1, ())))
        self.bad(0, "+ exit", (("plain", "-", 0), ("exit",)), ((0, ()), (1, ())))
        self.bad(0, "unless#1 exit", (("plain", "unless", 1), ("exit",)), ((0, ()), (1, ())))

    def test_the_last_row_has_no_next_one(self):
        for text, row in (("here exit", ("do", "here", (), 0)), ("lit#5 . exit", ("do", ".", (lit(5),), -1)), ("lit#1 exit", ("spill", lit(1))),
                          ("here exit", ("plain", "here", 0)), ("lit#0 throw exit", ("throw", lit(0))), ("lit#0 >r r> exit", ("keep", lit(0)))):
            self.bad(0, text, (row,), ((0, ()),))
        self.bad(0, "call#0 exit", (("call", 0),), ((0, ()),), older=("exit",))

    def test_building_acts(self):
        self.good(": exit", (("do", ":", (), -1), ("exit",)), ((0, ()), (1, ())))
        self.good("lit#65 parse exit", (("do", "parse", (lit(65),), 0), ("spill", R0), ("exit",)), ((0, ()), (2, (R0,)), (2, ())))
        self.bad(0, "pad, exit", (("do", "pad,", (), 0), ("exit",)), ((0, ()), (1, (R0,))))
        self.good("pad, exit", (("plain", "pad,", 0), ("exit",)), ((0, ()), (1, ())))


class Deferred(Case):
    def judged(self, declared, rows, paper):
        store = Store(16)
        store.defer(declared)
        return judge(store, 0, rows, paper, 4)

    def test_places_and_depths(self):
        rows, paper = (("plain", "deferred", 0), ("exit",)), ((0, ()), (1, ()))
        self.assertIsNone(self.judged((2, 1), rows, paper))
        self.assertEqual(self.judged((2, 1), rows[:1], paper[:1]), 0)
        self.assertEqual(self.judged((2, 1), rows, ((0, ()), (0, ()))), 0)
        self.assertEqual(self.judged((2, 1), rows[1:], paper[:1]), 0)
        self.assertEqual(self.judged((2, 1), (("plain", "forget", 0), ("exit",)), paper), 0)
        for declared, behind, ahead in (((2, 1), 1, 2), ((0, 3), 3, 0), ((8, 8), 8, 8), ((1, 0), 0, 1)):
            for count in range(5):
                self.assertEqual(self.filled(declared, rows, paper, count, 0) is None, count <= ahead, (declared, count))
                self.assertEqual(self.filled(declared, rows, paper, count, 1) is None, count <= behind, (declared, count))

    def filled(self, declared, rows, paper, count, place):
        """The verdict about code that fills so many registers at a place and spills them again."""
        slots = [("reg", slot) for slot in range(count)]
        fills = [("fill", slot) for slot in range(count)]
        spills = [("spill", slot) for slot in slots[::-1]]
        layouts = [tuple(slots[:at][::-1]) for at in range(count)] + [tuple(slots[::-1][at:]) for at in range(count)]
        entries = [(place, layout) for layout in layouts]
        return self.judged(declared, rows[:place] + tuple(fills + spills) + rows[place:],
                           paper[:place] + tuple(entries) + paper[place:])


class Bounds(Case):
    def test_long_bodies(self):
        store = Store(16)
        for text in ("lit#1 " * 3499 + "drop " * 3499 + "exit", "here drop " * 3499 + "exit",
                     "lit#1 dup drop drop " * 1700 + "exit", "lit#1 " * 900 + "c, " * 900 + "exit"):
            number = store.define(ops(text))
            for registers in (2, 8):
                rows, paper = made(store, number, registers)
                self.assertIsNone(judge(store, number, rows, paper, registers))
                self.assertEqual(judge(store, number, rows[:-1] + (None,), paper, registers), len(rows) - 1)


if __name__ == "__main__":
    import unittest
    unittest.main()
