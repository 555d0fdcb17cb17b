"""Engines: programs of code, and runs by code that end as the machine's do."""

import random

from tests import drawn, reference
from tests.helpers import Case, ops, store_of
from wordmint.caching import made
from wordmint.engine import Engine, Program
from wordmint.errors import BadItem, BadNumber, BadRegisters, BadRoom, BadRow, NotChecked, NoWord
from wordmint.forms import Word
from wordmint.machine import Machine, Rooms, within
from wordmint.makers import full_actions
from wordmint.reading import Source
from wordmint.session import Session
from wordmint.stores import Store
from wordmint.views import threaded

R0, R1, R2, R3 = ("reg", 0), ("reg", 1), ("reg", 2), ("reg", 3)


def ending(machine):
    """All that a run leaves but the stack."""
    return (machine.kind, machine.number, machine.output, machine.feed, machine.store.memory.all_bytes(),
            [word.action for word in machine.store])


class Programs(Case):
    def test_errors(self):
        store = store_of("dup exit", "unless#2 lit#1 exit")
        for registers in (1, 9, 0, True, None, "4"):
            self.fails(BadRegisters, registers, Program, store, registers)
            self.fails(BadRegisters, registers, Program, Store(16), registers)
        program = Program(store)
        for number in (-1, 2, True, None, "0", (0,)):
            self.fails(NoWord, number, program.__getitem__, number)
            self.fails(NoWord, number, program.put, number, None, None)
        self.fails(NotChecked, 1, program.__getitem__, 1)
        self.fails(NotChecked, 1, program.put, 1, None, None)
        self.fails(BadRow, 0, program.put, 0, None, None)
        rows, paper = program[0]
        self.fails(BadRow, len(rows) - 1, program.put, 0, rows[:-1] + (("goto", 0),), paper)
        self.assertEqual(program[0], (rows, paper))

    def test_what_it_has(self):
        store = store_of("dup exit", "unless#2 lit#1 exit", "perform exit", "call#0 exit", "goto#0")
        store.defer((1, 1))
        for registers in range(2, 9):
            program = Program(store, registers)
            self.assertEqual(program.registers, registers)
            self.assertEqual(list(program), [0, 3, 4, 5])
            self.assertEqual([number in program for number in range(-1, 7)], [False, True, False, False, True, True, True, False])
            for number in program:
                self.assertEqual(program[number], made(store, number, registers))
        self.assertEqual(Program(store).registers, 4)
        for thing in (True, False, None, "0", (0,), [0]):
            self.assertIs(thing in program, False)
        self.assertEqual(list(Program(Store(16))), [])

    def test_it_keeps_a_copy_of_the_words(self):
        store = store_of("dup exit")
        program = Program(store)
        store.define(ops("drop exit"))
        self.fails(NoWord, 1, program.__getitem__, 1)
        self.fails(NoWord, 1, program.put, 1, None, None)
        self.assertEqual(list(program), [0])
        store.words[0] = store[1]
        program.put(0, *made(store_of("dup exit"), 0, 4))

    def test_put(self):
        store = store_of("lit#1 lit#2 exit")
        program = Program(store, 2)
        rows = (("put", 1, ("lit", 1)), ("spill", R1), ("spill", ("lit", 2)), ("exit",))
        paper = ((0, ()), (2, (R1, ("lit", 2))), (2, (("lit", 2),)), (2, ()))
        self.assertIsNone(program.put(0, rows, paper))
        self.assertEqual(program[0], (rows, paper))
        self.assertEqual(list(program), [0])
        self.fails(BadRow, 0, program.put, 0, (("put", 2, ("lit", 1)),) + rows[1:], paper)
        engine = Engine(program, store, 0)
        engine.go(9)
        self.assertEqual((engine.kind, engine.stack, engine.steps), ("done", (1, 2), 4))

    def test_put_in_a_loop_over_the_program(self):
        store = store_of("dup exit", "perform exit", "call#0 exit", "lit#1 call#2 exit")
        program = Program(store, 2)
        wanted = [(number, made(store, number, 2)) for number in (0, 2, 3)]
        for number in program:
            program.put(number, *program[number])
        self.assertEqual([(number, program[number]) for number in program], wanted)


class Making(Case):
    def test_errors_of_a_machine(self):
        store = store_of("dup exit")
        program = Program(store)
        self.fails(NoWord, 1, Engine, program, store, 1, stack=(None,))
        self.fails(BadItem, (1,), Engine, program, store, 0, stack=(1, (1,)), feed=(None,))
        self.fails(BadNumber, None, Engine, program, store, 0, feed=(None,), data=0)
        self.fails(BadRoom, 7, Engine, program, store, 0, data=7, frames=0)
        self.fails(BadRoom, 0, Engine, program, store, 0, frames=0)

    def test_it_is_a_machine(self):
        store = store_of("+ exit")
        engine = Engine(Program(store), store, 0, stack=(1, 2), feed=(3,), data=10, frames=5)
        self.assertIsInstance(engine, Machine)
        self.assertEqual((engine.stack, engine.feed, engine.data, engine.frames, engine.kind, engine.number, engine.steps, engine.output),
                         ((1, 2), (3,), 10, 5, "runs", 0, 0, ""))
        self.assertIs(engine.store, store)
        engine = Engine(Program(store), store, 0, stack=(1, 2))
        self.assertEqual((engine.data, engine.frames, engine.actions), (64, 48, None))

    def test_at_view_by_code(self):
        store = store_of("+ exit", "lit#1 lit#2 call#0 exit", "call#1 perform exit", "call#1 drop here call#2 exit")
        program = Program(store)
        engine = Engine(program, store, 1)
        told = []
        while engine.kind == "runs":
            told.append((engine.at(), engine.view()[2:], engine.by_code()))
            engine.step()
        self.assertEqual(told, [
            ((1, 0), ((), ((1, 0, (), (), None),)), (True,)),
            ((1, 1), ((1,), ((1, 1, (), (), None),)), (True,)),
            ((1, 2), ((1, 2), ((1, 2, (), (), None),)), (True,)),
            ((0, 0), ((1, 2), ((1, 3, (), (), None), (0, 0, (), (), None))), (True, True)),
            ((0, 1), ((1,), ((1, 3, (), (), None), (0, 1, (), (), None))), (True, True)),
            ((0, 2), ((), ((1, 3, (), (), None), (0, 2, (), (), None))), (True, True)),
            ((0, 3), ((), ((1, 3, (), (), None), (0, 3, (), (), None))), (True, True)),
            ((0, 4), ((3,), ((1, 3, (), (), None), (0, 4, (), (), None))), (True, True)),
            ((1, 3), ((3,), ((1, 3, (), (), None),)), (True,)),
        ])
        self.assertEqual((engine.at(), engine.by_code(), engine.view()), (None, (), ("done", 0, (3,), ())))
        # A word that is refused runs by its body, and what it calls by code.
        engine = Engine(program, store, 2)
        self.assertEqual(engine.by_code(), (False,))
        engine.step()
        self.assertEqual((engine.at(), engine.by_code()), ((1, 0), (False, True)))


class Runs(Case):
    def alike(self, program, store, number, stack, feed, **named):
        """The kind with which the machine's run ends; the engine's run ends alike."""
        machine = Machine(store.copy(), number, stack=stack, feed=feed, **named)
        machine.go(2000)
        engine = Engine(program, store.copy(), number, stack=stack, feed=feed, **named)
        engine.go(30000)
        if machine.kind in ("done", "error", "asks"):
            self.assertEqual(ending(engine), ending(machine), store[number].body)
            if machine.kind == "asks":
                engine = threaded(engine)
                engine.go(2000)
                self.assertEqual(engine.kind, "asks")
            self.assertEqual(engine.stack, machine.stack)
            self.assertEqual(engine.store, machine.store)
        return machine.kind

    def test_drawn_stores(self):
        luck = random.Random(61)
        kinds = {}
        for turn in range(50):
            store = drawn.drawn_store(luck, luck.choice((16, 24, 32))) if turn % 3 else reference.some_store(luck)
            for registers in range(2, 9):
                program = Program(store, registers)
                for number in program:
                    stack = [luck.choice((0, 1, -1, 2, 65, (0,))) for _ in range(store[number].verdict.ins + luck.randint(0, 2))]
                    feed = [luck.choice((0, 1, 1)) for _ in range(luck.randint(0, 5))]
                    rooms = luck.choice(((200, 200), (64, 48), (max(8, len(stack)), 5)))
                    kind = self.alike(program, store, number, stack, feed, data=rooms[0], frames=rooms[1])
                    kinds[kind] = kinds.get(kind, 0) + 1
        for kind in ("done", "error", "asks", "over"):
            self.assertGreater(kinds.get(kind, 0), 20, kinds)

    def test_words_that_are_refused_run_by_their_bodies(self):
        luck = random.Random(62)
        for _ in range(25):
            store = drawn.drawn_store(luck)
            refused = store.define(ops("token#0 drop dup unless#6 call#0 goto#6 exit"))
            program = Program(store)
            if refused not in program:
                self.alike(program, store, refused, (0, 1, 2, 3, 1), (1, 0, 1))

    def test_straight_words(self):
        luck = random.Random(63)
        for _ in range(200):
            store = Store(16)
            store.define(drawn.straight_body(luck, luck.randint(0, 4), luck.randint(0, 8)))
            if store[0].effect is not None:
                stack = [luck.choice((0, 1, 2, -1, 10)) for _ in range(store[0].verdict.ins)]
                self.alike(Program(store, luck.randint(2, 8)), store, 0, stack, (1, 2, 3), data=64, frames=3)

    def test_catch_and_throw(self):
        # 0 throws, 1 catches it by code, 2 calls 1 with items below; 3 is refused and catches, too.
        store = store_of("lit#7 >r lit#9 throw r> drop exit", "lit#5 token#0 catch#0 exit", "lit#1 lit#2 call#1 + + + exit",
                         "token#1 dup perform exit", "lit#4 token#1 catch#1 exit", "token#0 catch#0 token#0 catch#0 + exit")
        program = Program(store, 3)
        for number in range(len(store)):
            kind = self.alike(program, store, number, (3, 4), ())
            self.assertEqual(kind, "error" if number in (0, 4) else "done", number)

    def test_catch_through_frames_by_code_and_by_body(self):
        store = store_of("throw exit", "lit#3 token#0 perform exit", "token#1 drop lit#8 call#0 exit", "lit#6 token#2 catch#0 exit")
        program = Program(store)
        engine = Engine(program, store.copy(), 3)
        engine.go(99)
        self.assertEqual((engine.kind, engine.stack), ("done", (6, 8)))
        # Word 1 is refused: it runs by its body, within a catch by code.
        self.assertNotIn(1, program)
        store.defer((0, 0))
        store.define(ops("lit#6 token#4 catch#0 exit"))
        store.words[4] = Word("", -1, "deferred", False, store[4].body, (0, 0), store[4].verdict, action=1)
        engine = Engine(Program(store), store.copy(), 5)
        seen = set()
        while engine.kind == "runs":
            seen.add(engine.by_code())
            engine.step()
        self.assertEqual((engine.kind, engine.stack), ("done", (6, 3)))
        self.assertIn((True, False, True), seen)

    def test_asks_and_give(self):
        store = store_of("ask dup . ask + exit", "call#0 call#0 - exit")
        program = Program(store)
        engine = Engine(program, store, 1)
        self.assertEqual(engine.go(99), "asks")
        steps = engine.steps
        self.assertEqual((engine.step(), engine.steps), ("asks", steps))
        engine.give((5,))
        self.assertEqual((engine.kind, engine.go(99), engine.output), ("runs", "asks", "5 "))
        engine.give((6, 7, 8))
        self.assertEqual((engine.go(99), engine.stack, engine.output), ("done", (-4,), "5 7 "))
        self.fails(BadNumber, True, engine.give, (1, True))

    def test_actions_that_are_exchanged(self):
        store = store_of("lit#1 + exit", "lit#2 * exit")
        store.defer((1, 1), action=0)
        store.define(ops("call#2 token#1 is#2 call#2 exit"))
        program = Program(store)
        engine = Engine(program, store.copy(), 3, stack=(5,))
        engine.go(99)
        self.assertEqual((engine.kind, engine.stack, engine.store[2].action), ("done", (12,), 1))
        store.act(2, None)
        engine = Engine(program, store, 3, stack=(5,))
        engine.go(99)
        self.assertEqual((engine.kind, engine.number), ("error", -9))

    def test_building_acts(self):
        session = Session(16)
        session.read([": make create , ; : twice : 2 dup literal literal postpone ; ;", ": shout 65 emit here . state . ;",
                      ": gap [: unless> >land ;] 0 catch 0 drop ;"])
        system = session.system
        program = Program(system, 3)
        for name, stack, text in (("make", (7,), "seven"), ("twice", (), "w"), ("shout", (), ""), ("gap", (), ""), ("make", (), ""),
                                  ("dup", (1,), ""), (":", (), "x ( a -- b )"), ("parse", (65,), "bcA"), ("lookup", (), ""),
                                  ("new-list", (), ""), ("also", (1,), ""), ("also", (9,), ""), ("word", (), "abc def")):
            number = system.number_of(name)
            one, two = system.copy(), system.copy()
            for each in (one, two):
                each.source = Source((text,))
            machine = Machine(one, number, stack=stack, actions=full_actions())
            engine = Engine(program, two, number, stack=stack, actions=full_actions())
            machine.go(99)
            engine.go(999)
            self.assertEqual((ending(machine), machine.stack, machine.store, machine.store.caught),
                             (ending(engine), engine.stack, engine.store, engine.store.caught), name)
        engine = Engine(program, system.copy(), system.number_of(":"))
        engine.go(9)
        self.assertEqual((engine.kind, engine.number), ("error", -11))


class Rows(Case):
    """Codes made by hand that the judge lets by, row by row."""

    def run_code(self, text, rows, paper, *stack, declared=None, registers=4, older=(), feed=(), steps=99, **named):
        store = store_of(*older)
        number = store.define(ops(text), declared=declared)
        program = Program(store, registers)
        program.put(number, rows, paper)
        engine = Engine(program, store, number, stack=stack, feed=feed, **named)
        engine.go(steps)
        return engine

    def test_registers_need_no_room(self):
        # Eight items lie on a stack with room for eight; the body of the machine ends in over.
        text = "lit#1 lit#2 + drop exit"
        rows = (("put", 0, ("lit", 1)), ("do", "+", (R0, ("lit", 2)), 1), ("exit",))
        paper = ((0, ()), (2, (R0, ("lit", 2))), (3, (R1,)))
        engine = self.run_code(text, rows, paper, *range(8), data=8)
        self.assertEqual((engine.kind, engine.stack, engine.steps), ("done", tuple(range(8)), 3))
        engine = self.run_code("ask drop exit", (("do", "ask", (), 3), ("exit",)), ((0, ()), (1, (R3,))), *range(8), data=8, feed=(1,))
        self.assertEqual((engine.kind, engine.feed), ("done", ()))

    def test_a_spill_on_a_full_stack_ends_in_over(self):
        rows, paper = (("spill", ("lit", 1)), ("exit",)), ((0, ()), (1, ()))
        engine = self.run_code("lit#1 exit", rows, paper, *range(8), data=8)
        self.assertEqual((engine.kind, engine.steps, engine.at(), engine.stack), ("over", 0, (0, 0), tuple(range(8))))
        self.assertEqual(engine.step(), "over")
        engine = self.run_code("lit#1 exit", rows, paper, *range(7), data=8)
        self.assertEqual((engine.kind, engine.steps), ("done", 2))

    def test_a_fill_on_an_empty_stack(self):
        rows, paper = (("fill", 0), ("do", "+", (R0, ("lit", 1)), 1), ("spill", R1), ("exit",)), \
            ((0, ()), (1, (R0, ("lit", 1))), (2, (R1,)), (2, ()))
        self.assertEqual(self.run_code("lit#1 + exit", rows, paper, 4).stack, (5,))
        engine = self.run_code("lit#1 + exit", rows, paper)
        self.assertEqual((engine.kind, engine.number), ("error", -1))

    def test_wrong_kinds_and_errors_of_acts(self):
        rows, paper = (("fill", 0), ("do", "0=", (R0,), 0), ("spill", R0), ("exit",)), ((0, ()), (0, (R0,)), (1, (R0,)), (1, ()))
        engine = self.run_code("0= exit", rows, paper, (0,))
        self.assertEqual((engine.kind, engine.number, engine.steps), ("error", -4, 2))
        rows = (("fill", 0), ("unless", R0, 2), ("exit",))
        engine = self.run_code("unless#1 exit", rows, ((0, ()), (0, (R0,)), (1, ())), (0,))
        self.assertEqual((engine.kind, engine.number, engine.steps), ("error", -4, 2))
        rows = (("fill", 0), ("throw", R0), ("exit",))
        for item, kind, number in (((0,), "error", -4), (0, "done", 0), (5, "error", 5)):
            engine = self.run_code("throw exit", rows, ((0, ()), (0, (R0,)), (1, ())), item)
            self.assertEqual((engine.kind, engine.number), (kind, number))
        for text, op, number in (("lit#1 lit#0 /", "/", -6), ("lit#1 lit#-1 type", "type", -5), ("lit#1 lit#9 !", "!", -5)):
            numbers = tuple(row for row in ops(text)[:2])
            slot = 0 if op == "/" else -1
            layout = (R0,) if op == "/" else ()
            spills = (("spill", R0),) if op == "/" else ()
            engine = self.run_code(text + " exit", (("do", op, numbers, slot), *spills, ("exit",)),
                                   ((0, ()), (3, layout), *[(3, ())] * len(spills)))
            self.assertEqual((engine.kind, engine.number, engine.steps), ("error", number, 1))

    def test_own_items_and_locals(self):
        text = ">r r@ r> exit"
        rows = (("fill", 1), ("keep", R1), ("look", 0), ("back", 1), ("spill", R0), ("spill", R1), ("exit",))
        paper = ((0, ()), (0, (R1,)), (1, ()), (2, (R0,)), (3, (R0, R1)), (3, (R1,)), (3, ()))
        engine = self.run_code(text, rows, paper, (0,), steps=3)
        self.assertEqual(engine.view()[3], ((0, 3, ((0,),), (), None),))
        engine.go(9)
        self.assertEqual((engine.kind, engine.stack), ("done", ((0,), (0,))))
        text = "locals#2 local#1 set#0 local#0 exit"
        rows = (("fill", 0), ("fill", 1), ("locals", (R1, R0)), ("local", 1, 2), ("set", 0, R2), ("local", 0, 0), ("spill", R0), ("exit",))
        paper = ((0, ()), (0, (R0,)), (0, (R1, R0)), (1, ()), (2, (R2,)), (3, ()), (4, (R0,)), (4, ()))
        engine = self.run_code(text, rows, paper, 7, (0,), steps=3)
        self.assertEqual(engine.view()[3][0][3], (7, (0,)))
        engine.go(2)
        self.assertEqual(engine.view()[3][0][3], ((0,), (0,)))
        engine.go(9)
        self.assertEqual(engine.stack, ((0,),))

    def test_a_jump_by_code(self):
        store = store_of("lit#3 + exit", "locals#1 local#0 jump#0")
        program = Program(store)
        engine = Engine(program, store, 1, stack=(4,), frames=1)
        engine.go(99)
        self.assertEqual((engine.kind, engine.stack), ("done", (7,)))

    def test_registers_at_the_beginning_and_behind_a_call(self):
        store = store_of("here drop exit", "here here call#0 + drop exit", ("dup unless#4 recurse exit exit", (1, 1)),
                         "here drop token#0 run#0,0 exit",
                         "here drop token#0 catch#0 drop exit")
        program = Program(store, 2)
        for number in range(len(store)):
            engine = Engine(program, store.copy(), number, stack=(0,))
            before = 0
            while engine.kind == "runs":
                count = len(engine.calls)
                if count > before:
                    self.assertEqual([frame.cache for frame in engine.calls], [{}] * count)
                before = count
                engine.step()
            self.assertEqual(engine.kind, "done")

    def test_deep(self):
        store = store_of("exit", "call#0 exit")
        engine = Engine(Program(store), store, 1, frames=1)
        engine.go(9)
        self.assertEqual((engine.kind, engine.steps, engine.at()), ("deep", 0, (1, 0)))

    def test_rooms(self):
        store = store_of("lit#1 exit", "call#0 exit")
        engine = Engine(Program(store), store, 1, frames=1)
        with Rooms(engine, 8, 2):
            engine.go(2)
        self.assertEqual((engine.frames, engine.kind, engine.at()), (1, "runs", (0, 1)))
        self.assertEqual((within(engine, 9, data=8, frames=2), engine.stack), ("done", (1,)))


class StillTheSame(Case):
    """A word runs by its code only if it, and the summaries of what it calls, are as they were."""

    def by_code(self, program, store, number, *stack):
        return Engine(program, store, number, stack=stack).by_code()[0]

    def test_another_body(self):
        store = store_of("lit#1 exit", "call#0 exit", "dup exit")
        program = Program(store)
        other = store_of("lit#2 exit", "call#0 exit", "dup exit")
        self.assertEqual([self.by_code(program, other, number, 1) for number in range(3)], [False, True, True])
        engine = Engine(program, other, 1)
        engine.go(9)
        self.assertEqual(engine.stack, (2,))

    def test_equal_words_of_another_store(self):
        store = store_of("lit#1 exit", "call#0 exit", ("+ exit", (2, 1)))
        program = Program(store)
        other = store_of("lit#1 exit", "call#0 exit", "+ exit", width=32)
        self.assertEqual([self.by_code(program, other, number, 1, 2) for number in range(3)], [True] * 3)
        # The same body, but another summary.
        other = store_of("lit#1 exit", "call#0 exit", ("+ exit", (3, 2)))
        self.assertEqual([self.by_code(program, other, number, 1, 2, 3) for number in range(3)], [True, True, False])

    def test_another_summary_of_a_callee(self):
        store = store_of("lit#1 exit", "call#0 exit", "goto#2 jump#0 exit", "call#1 exit", "token#0 drop exit")
        program = Program(store)
        # Word 0 has another rise: words that call or jump to it, come to or not, run by their bodies.
        other = store_of("lit#1 dup drop exit", "call#0 exit", "goto#2 jump#0 exit", "call#1 exit", "token#0 drop exit")
        self.assertEqual([self.by_code(program, other, number) for number in range(5)], [False, False, False, False, True])
        # The same summary and another body: only the word itself runs by the body.
        other = store_of("lit#2 exit", "call#0 exit", "goto#2 jump#0 exit", "call#1 exit", "token#0 drop exit")
        self.assertEqual([self.by_code(program, other, number) for number in range(5)], [False, True, True, True, True])

    def test_callees_that_are_refused(self):
        store = store_of("drop unless#2 exit", "unless#2 lit#1 exit", "goto#2 call#1 exit")
        program = Program(store)
        # Word 1 is refused in another way: it has no summary then and now.
        other = store_of("drop unless#2 exit", "perform exit", "goto#2 call#1 exit")
        self.assertTrue(self.by_code(program, other, 2))
        other = store_of("drop unless#2 exit", "lit#1 exit", "goto#2 call#1 exit")
        self.assertFalse(self.by_code(program, other, 2))
        store = other
        program = Program(store)
        other = store_of("drop unless#2 exit", "perform exit", "goto#2 call#1 exit")
        self.assertFalse(self.by_code(program, other, 2))

    def test_words_that_were_not_there(self):
        store = store_of("lit#1 exit")
        program = Program(store)
        store.define(ops("call#0 call#0 + exit"))
        self.assertEqual([self.by_code(program, store, number) for number in range(2)], [True, False])
        engine = Engine(program, store, 1)
        engine.go(99)
        self.assertEqual((engine.kind, engine.stack), ("done", (2,)))

    def test_a_store_that_has_fewer_words(self):
        store = store_of("lit#1 exit", "call#0 exit")
        self.assertTrue(self.by_code(Program(store), store_of("lit#1 exit"), 0))

    def test_the_codes_are_those_at_the_beginning(self):
        store = store_of("lit#1 exit", "call#0 exit")
        program = Program(store)
        engine = Engine(program, store.copy(), 1)
        program.put(0, (("put", 0, ("lit", 1)), ("spill", R0), ("exit",)), ((0, ()), (1, (R0,)), (1, ())))
        engine.go(99)
        self.assertEqual((engine.steps, engine.stack), (4, (1,)))
        engine = Engine(program, store.copy(), 1)
        engine.go(99)
        self.assertEqual((engine.steps, engine.stack), (5, (1,)))

    def test_words_that_come_and_go_by_a_marker(self):
        session = Session(16)
        session.read([": old 1 ; defer later 0 1 marker gone : new 2 ; : user new old + ;"])
        program = Program(session.system)
        number = session.system.number_of("user")
        session.read(["gone marker gone : new 5 dup drop ; : user new old + ;"])
        system = session.system
        self.assertEqual(system.number_of("user"), number)
        self.assertEqual([self.by_code(program, system, each) for each in (number, number - 1, system.number_of("old"))], [False, False, True])
        engine = Engine(program, system.copy(), number, actions=full_actions())
        engine.go(99)
        self.assertEqual(engine.stack, (6,))
        # They come again as they were.
        session = Session(16)
        session.read([": old 1 ; defer later 0 1 marker gone : new 2 ; : user new old + ;"])
        session.read(["gone marker gone : new 2 ; : user new old + ;"])
        self.assertTrue(self.by_code(program, session.system, session.system.number_of("user")))

    def test_a_word_that_goes_and_comes_in_a_run(self):
        session = Session(16)
        session.read([": redo ' perform ' perform marker : 7 literal postpone ; ' perform ; marker gone : new 2 ;"])
        system = session.system
        number = system.number_of("new")
        system.source = Source(("new gone gone new new",))
        engine = Engine(Program(system), system, system.number_of("redo"), actions=full_actions())
        modes = []
        while engine.kind == "runs":
            if engine.at()[0] == number:
                modes.append(engine.by_code())
            engine.step()
        self.assertEqual((engine.kind, engine.number, engine.stack), ("done", 0, (2, 7)))
        self.assertEqual((modes[0], modes[-1]), ((False, True), (False, False)))

    def test_a_marker_runs_by_its_body(self):
        session = Session(16)
        session.read([": old 1 ; marker gone : new 2 ;"])
        program = Program(session.system)
        self.assertNotIn(session.system.number_of("gone"), program)
        engine = Engine(program, session.system.copy(), session.system.number_of("gone"), actions=full_actions())
        self.assertEqual(engine.by_code(), (False,))
        engine.go(9)
        self.assertEqual((engine.kind, engine.store.find("new")), ("done", None))

    def test_behaviours(self):
        session = Session(16)
        session.read(["5 create five ,"])
        program = Program(session.system)
        session.read([": b five [ ' @ compile ] ; ' b drop"])
        other = Session(16)
        other.read(["5 create five , ' @ behave"])
        number = other.system.number_of("five")
        engine = Engine(program, other.system, number)
        self.assertEqual(engine.by_code(), (False,))
        engine.go(9)
        self.assertEqual(engine.stack, (5,))


class Copies(Case):
    def test_copies_go_their_own_way(self):
        store = store_of("here , lit#1 + exit", "call#0 ask + exit", "call#1 call#1 + exit")
        store.defer((0, 0))
        program = Program(store, 3)
        engine = Engine(program, store, 2, stack=(1, 2), feed=(5, 6), data=20, frames=9)
        views = []
        while engine.kind == "runs":
            copy = engine.copy()
            self.assertIs(copy.__class__, Engine)
            self.assertIsNot(copy.store, engine.store)
            self.assertEqual((copy.view(), copy.by_code(), copy.at(), copy.feed, copy.output, copy.steps, copy.data, copy.frames),
                             (engine.view(), engine.by_code(), engine.at(), engine.feed, engine.output, engine.steps, 20, 9))
            before = (engine.view(), engine.store.memory.all_bytes())
            copy.go(999)
            self.assertEqual((engine.view(), engine.store.memory.all_bytes()), before)
            views.append((copy.view(), copy.steps, copy.store.memory.all_bytes()))
            engine.step()
        self.assertEqual(views, [(engine.view(), engine.steps, engine.store.memory.all_bytes())] * len(views))

    def test_a_copy_has_the_codes_that_the_engine_has(self):
        store = store_of("lit#1 exit", "call#0 exit")
        program = Program(store)
        engine = Engine(program, store, 1)
        program.put(0, (("put", 0, ("lit", 1)), ("spill", R0), ("exit",)), ((0, ()), (1, (R0,)), (1, ())))
        copy = engine.copy()
        copy.go(99)
        self.assertEqual(copy.steps, 4)

    def test_moments(self):
        store = store_of("dup + exit")
        engine = Engine(Program(store), store, 0, stack=(3,))
        self.assertEqual(list(engine.moments(99)), [(0, at) for at in range(len(Program(store)[0][0]))])
        self.assertEqual(engine.kind, "done")


if __name__ == "__main__":
    import unittest
    unittest.main()
