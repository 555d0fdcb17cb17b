"""Threaded views: each is as the machine is at some moment, and goes on as the engine does."""

import random

from tests import drawn, reference
from tests.helpers import Case, store_of
from wordmint.engine import Engine, Program
from wordmint.machine import Machine
from wordmint.makers import full_actions
from wordmint.reading import Source
from wordmint.session import Session
from wordmint.views import threaded, views

R0, R1 = ("reg", 0), ("reg", 1)


def shown(machine):
    """All that shows where a machine stands; what has not ended counts as running."""
    kind, number, stack, frames = machine.view()
    kind = kind if kind in ("done", "error") else "runs"
    return (kind, number, stack, frames, machine.output, machine.feed, machine.store.memory.all_bytes())


def moments_of(machine, most):
    """For each standing of a run the moments at which it is so."""
    table = {}
    for moment in range(most):
        table.setdefault(shown(machine), []).append(moment)
        if machine.kind != "runs":
            break
        machine.step()
    return table


class Views(Case):
    def follow(self, machine, engine, most=300):
        """Looks at the view ahead of each step of the engine, and at the last one."""
        table = moments_of(machine, most)
        moment = 0
        for _ in range(most):
            view = threaded(engine)
            self.assertIs(view.__class__, Machine)
            if machine.kind == "runs" and shown(view) not in table:
                return moment
            later = [each for each in table[shown(view)] if each >= moment]
            if machine.kind == "runs" and not later:
                return moment
            moment = later[0]
            if engine.kind != "runs":
                break
            engine.step()
        return moment

    def test_drawn_words(self):
        luck = random.Random(71)
        kinds = {}
        for turn in range(50):
            store = drawn.drawn_store(luck, luck.choice((16, 24, 32))) if turn % 3 else reference.some_store(luck)
            for registers in (2, 3, 5, 8):
                program = Program(store, registers)
                for number in range(len(store)):
                    ins = store[number].verdict.ins if number in program else 6
                    stack = [luck.choice((0, 1, -1, 2, 65)) for _ in range(ins + luck.randint(0, 2))]
                    feed = [luck.choice((0, 1, 1)) for _ in range(luck.randint(0, 5))]
                    named = {"stack": stack, "feed": feed, "data": 200, "frames": 200}
                    machine = Machine(store.copy(), number, **named)
                    engine = Engine(program, store.copy(), number, **named)
                    self.follow(machine, engine)
                    kinds[engine.kind] = kinds.get(engine.kind, 0) + 1
                    if engine.kind == "asks":
                        view = threaded(engine)
                        view.go(999)
                        self.assertEqual((view.kind, view.stack), ("asks", machine.stack))
        for kind in ("done", "error", "asks"):
            self.assertGreater(kinds[kind], 20, kinds)

    def test_a_view_goes_on_to_the_same_end(self):
        luck = random.Random(72)
        for _ in range(30):
            store = drawn.drawn_store(luck)
            program = Program(store, luck.randint(2, 8))
            for number in program:
                stack = [luck.choice((0, 1, 2, -1)) for _ in range(store[number].verdict.ins)]
                engine = Engine(program, store.copy(), number, stack=stack, feed=(1, 0, 1))
                ends = []
                for _ in range(60):
                    view = threaded(engine)
                    view.data, view.frames = 200, 200
                    view.go(3000)
                    if view.kind == "runs":
                        break
                    ends.append(shown(view) + (view.kind,))
                    if engine.kind != "runs":
                        break
                    engine.step()
                self.assertLessEqual(len(set(map(repr, ends))), 1)

    def test_frames_that_wait_behind_a_call(self):
        store = store_of("+ exit", "lit#1 dup drop lit#2 call#0 lit#3 exit", "lit#9 drop token#1 run#0,2 drop drop exit",
                         "lit#4 token#2 catch#0 exit")
        program = Program(store)
        engine = Engine(program, store, 3)
        places = set()
        while engine.kind == "runs":
            view = threaded(engine).view()
            self.assertEqual([frame[0] for frame in view[3]], [frame[0] for frame in engine.view()[3]])
            places.add(tuple([frame[:2] for frame in view[3][:-1]]))
            engine.step()
        self.assertEqual((engine.kind, engine.stack), ("done", (4, 0)))
        self.assertEqual(places, {(), ((3, 3),), ((3, 3), (2, 4)), ((3, 3), (2, 4), (1, 5))})

    def test_layouts_on_the_stack(self):
        store = store_of("exit", "lit#7 data#2 token#0 drop drop drop exit",
                         "swap lit#5 + exit")
        program = Program(store)
        engine = Engine(program, store, 2, stack=(1, (0,)))
        told = [each[2] for each in views(engine, 99)]
        self.assertEqual([item[:2] for item in told[:3]], [(1, (0,))] * 3)
        self.assertEqual(engine.kind, "done")
        # Layout steps show when the row behind them does.
        program.put(1, (("goto", 1), ("goto", 2), ("exit",)),
                    ((0, ()), (3, (("lit", 7), ("data", 2), ("token", 0))), (5, (("lit", 7),))))
        engine = Engine(program, store, 1, stack=(3,))
        told = list(views(engine, 99))
        self.assertEqual([(each[2], each[3]) for each in told],
                         [((3,), ((1, 0, (), (), None),)), ((3, 7, 2, (0,)), ((1, 3, (), (), None),)),
                          ((3, 7), ((1, 5, (), (), None),))])

    def test_more_items_than_room(self):
        store = store_of("lit#1 lit#2 drop drop exit")
        program = Program(store)
        program.put(0, (("goto", 1), ("exit",)), ((0, ()), (2, (("lit", 1), ("lit", 2)))))
        engine = Engine(program, store, 0, stack=tuple(range(8)), data=8)
        engine.step()
        view = threaded(engine)
        self.assertEqual((view.stack, view.data, view.kind), (tuple(range(8)) + (1, 2), 8, "runs"))
        self.assertEqual((view.go(9), view.stack), ("done", tuple(range(8))))

    def test_what_the_view_has(self):
        store = store_of("here , ask . exit")
        actions = full_actions()
        engine = Engine(Program(store), store, 0, feed=(5, 6), data=20, frames=7, actions=actions)
        engine.go(2)
        view = threaded(engine)
        self.assertEqual((view.steps, view.data, view.frames, view.feed, view.output), (0, 20, 7, (5, 6), ""))
        self.assertIs(view.actions, actions)
        self.assertIsNot(view.store, store)
        self.assertEqual(view.store, store)
        view.go(99)
        self.assertEqual((view.output, view.feed), ("5 ", (6,)))
        self.assertEqual((engine.output, engine.feed, engine.kind), ("", (5, 6), "runs"))
        engine.go(99)
        view = threaded(engine)
        self.assertEqual((view.output, view.steps, view.kind), ("5 ", 0, "done"))

    def test_ended_runs(self):
        store = store_of("lit#1 exit", "lit#5 throw exit", "lit#1 lit#2 swap call#0 exit", "dup ask + exit")
        program = Program(store)
        for number, stack, rooms, told in (
                (0, (3,), (8, 1), ("done", 0, (3, 1), ())), (1, (3,), (8, 1), ("error", 5, (), ())),
                (2, tuple(range(8)), (8, 9), ("runs", 0, (*range(8), 2, 1), ((2, 3, (), (), None),))),
                (2, (), (8, 1), ("runs", 0, (2, 1), ((2, 3, (), (), None),))),
                (3, (4,), (8, 1), ("runs", 0, (4,), ((3, 0, (), (), None),)))):
            engine = Engine(program, store.copy(), number, stack=stack, data=rooms[0], frames=rooms[1])
            engine.go(99)
            self.assertNotEqual(engine.kind, "runs")
            view = threaded(engine)
            if engine.kind != "over":
                self.assertEqual(view.view(), told, engine.kind)
            else:
                self.assertEqual((view.kind, view.stack[:8]), ("runs", tuple(range(8))))
            self.assertEqual(view.number, told[1])
            self.assertEqual(list(views(engine, 5)), [])

    def test_frames_by_code_and_by_body(self):
        # free is refused, and asked calls it: both run by their bodies, and sq by its code.
        session = Session(16)
        session.read([": sq dup * ; : free perform ; : asked [: sq ;] free ;"])
        system = session.system
        program = Program(system, 3)
        for name in ("asked", "free"):
            number = system.number_of(name)
            stack = (5,) if name == "asked" else (5, (system.number_of("sq"),))
            machine = Machine(system.copy(), number, stack=stack, actions=full_actions())
            engine = Engine(program, system.copy(), number, stack=stack, actions=full_actions())
            modes = set()
            while engine.kind == "runs":
                modes.add(engine.by_code())
                engine.step()
            self.assertIn((False, True), {mode[-2:] for mode in modes})
            engine = Engine(program, system.copy(), number, stack=stack, actions=full_actions())
            self.follow(machine, engine)
            self.assertEqual((engine.kind, engine.stack), ("done", (25,)))

    def test_building_acts(self):
        session = Session(16)
        session.read([": make create , ; : w : postpone dup postpone ; ;"])
        program = Program(session.system)
        for name, stack, text in (("make", (7,), "seven"), ("w", (), "new"), ("w", (), "")):
            systems = [session.system.copy() for _ in range(2)]
            for system in systems:
                system.source = Source((text,))
            number = session.system.number_of(name)
            machine = Machine(systems[0], number, stack=stack, actions=full_actions())
            engine = Engine(program, systems[1], number, stack=stack, actions=full_actions())
            self.follow(machine, engine)
            self.assertEqual(machine.store, engine.store)
            self.assertEqual(threaded(engine).view(), machine.view())

    def test_views_is_a_generator(self):
        store = store_of("lit#1 . exit")
        engine = Engine(Program(store), store, 0)
        walk = views(engine, 2)
        self.assertEqual(engine.steps, 0)
        first = next(walk)
        self.assertEqual((first, engine.steps), (threaded(engine).view(), 0))
        self.assertEqual((next(walk)[0], engine.steps), ("runs", 1))
        self.assertEqual((list(walk), engine.steps), ([], 2))
        self.assertEqual(list(views(Engine(Program(store), store, 0), 0)), [])
        engine = Engine(Program(store), store, 0)
        self.assertEqual(len(list(views(engine, 99))), engine.steps)


if __name__ == "__main__":
    import unittest
    unittest.main()
