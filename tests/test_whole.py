"""What the document promises over the whole program: many ways to the same end."""

import random

from tests import drawn
from tests.helpers import Case
from wordmint.engine import Engine, Program
from wordmint.machine import Machine
from wordmint.makers import full_actions
from wordmint.minting import mint, remint
from wordmint.pruning import pruned, renumbered
from wordmint.reading import Source
from wordmint.saving import load, save
from wordmint.session import Session
from wordmint.source import SOURCE
from wordmint.stages import staged
from wordmint.stepping import Tracer
from wordmint.stops import load_run, save_run
from wordmint.views import threaded

TEXT = [
    ": gcd ( a b -- n ) begin dup while tuck mod repeat drop ;",
    ": fact ( n -- n ) dup 2 < if drop 1 exit then dup 1- recurse * ;",
    "variable total 7 array cells : sum ( n -- ) for i dup total +! i 1- cells ! next ;",
    ": shout ( n -- ) for .\" hey\" space next cr ; 3 constant three",
    "defer act 1 1 : set ( t -- ) is act ; : twice ( n -- n ) act act ; ' fact set",
    ": safe ( a b -- n k ) [: / ;] catch 2 dup if nip then ; : fails 1 0 / ; : maybe { a b } a if b to a then a b ;",
    ": tables ( n -- ) for 3 for i . next i . next ; : both twice three gcd ; : noisy ask dup . 5 throw ;",
]
RUNS = (("gcd", (48, 36)), ("fact", (7,)), ("sum", (5,)), ("shout", (3,)), ("twice", (3,)), ("safe", (7, 2)), ("safe", (7, 0)), ("maybe", (0, 5)),
        ("maybe", (4, 5)), ("tables", (3,)), ("both", (3,)), ("noisy", ()), ("fails", ()), ("set", None), ("char", ()), ("variable", ()), ("array", (4,)),
        ("if", ()), ("min", (3, -4)), (":", ()))


def ending(machine):
    """All that a run leaves, whatever numbers words have."""
    store = machine.store
    return (machine.kind, machine.number, machine.output, machine.feed, store.memory.all_bytes(), store.lists, store.compiling,
            [one.name for one in store.opened], [word.name for word in store][-1], store.caught)


class Whole(Case):
    systems = {}

    def system(self, width=16):
        if width not in self.systems:
            session = Session.of(mint(width, SOURCE))
            outcome = session.read(TEXT)
            self.assertEqual((outcome.kind, outcome.number, session.stack), ("done", 0, ()))
            self.systems[width] = session.system
        return self.systems[width].copy()

    def machine(self, system, name, stack, text="abc def"):
        system = system.copy()
        system.source = Source((text, "ghi"))
        if stack is None:
            stack = ((system.number_of("1+"),),)
        return Machine(system, system.number_of(name), stack=stack, feed=(6, 7), actions=full_actions(), data=120, frames=100)

    def test_systems_on_many_ways(self):
        for width in (16, 24, 32):
            system = self.system(width)
            again = load(save(system))
            shorter = staged(system)
            roots = [system.number_of(name) for name, _ in RUNS] + [system.number_of("1+")]
            fewer, numbers = pruned(system, roots)
            ways = [system, again, shorter, load(save(shorter)), staged(again), fewer, load(save(fewer)), staged(fewer), pruned(shorter, roots)[0],
                    staged(shorter)]
            self.assertLess(len(fewer), len(system))
            for name, stack in RUNS:
                ends = []
                for each in ways:
                    machine = self.machine(each, name, stack)
                    machine.go(5000)
                    # Which word is the last one, and what was caught, is not the same on all ways.
                    ends.append((ending(machine)[:-2], machine.stack))
                    self.assertIn(machine.kind, ("done", "error"))
                for end in ends[1:]:
                    self.assertEqual(end, ends[0], name)

    def test_runs_on_many_ways(self):
        luck = random.Random(131)
        system = self.system()
        programs = [Program(system, registers) for registers in (2, 4, 8)]
        for name, stack in RUNS:
            machine = self.machine(system, name, stack)
            begin = machine.copy()
            machine.go(5000)
            told = (ending(machine), machine.stack, machine.steps)
            # Stopped, saved and loaded in between.
            other = begin.copy()
            while other.kind == "runs":
                other.go(luck.randint(1, 40))
                other = load_run(save_run(other))
            self.assertEqual((ending(other), other.stack, other.steps), told, name)
            # By a tracer that goes forward and back.
            tracer = Tracer(begin.copy())
            while tracer.machine.kind == "runs" or luck.random() < 0.5:
                deed = luck.choice((tracer.step, tracer.over, tracer.over, tracer.out, tracer.back, tracer.step))
                deed()
            tracer.go()
            self.assertEqual((ending(tracer.machine), tracer.machine.stack, tracer.machine.steps), told, name)
            # By engines, and by machines that go on from their views.
            for program in programs:
                engine = Engine(program, begin.store.copy(), begin.calls[0].number, stack=begin.stack, feed=begin.feed, actions=full_actions(),
                                data=120, frames=100)
                views = []
                while engine.kind == "runs":
                    if luck.random() < 0.05:
                        views.append(threaded(engine))
                    engine.step()
                for each in [engine, *views]:
                    each.go(5000)
                    self.assertEqual((ending(each), each.stack), told[:2], name)

    def test_a_staged_system_reads_on(self):
        lines = [": more ( n -- n ) 1+ twice ; 2 more .", "variable v 5 v ! v @ .", ": x [char] x emit ; x", "4 tables cr"]
        ends = []
        for system in (self.system(), staged(self.system()), load(save(self.system()))):
            session = Session.of(system)
            outcome = session.read(lines)
            other = Session.of(system)
            second = other.read_by("read", lines)
            self.assertEqual((outcome.kind, outcome.output, session.stack), (second.kind, second.output, other.stack))
            ends.append((outcome.kind, outcome.number, outcome.output, session.stack, [word.name for word in session.system],
                         session.system.memory.all_bytes()))
        self.assertEqual(ends[1:], ends[:1] * 2)
        self.assertEqual(ends[0][0], "done")

    def test_the_text_mints_itself_with_more_in_it(self):
        lines = list(SOURCE) + TEXT
        for width in (16, 24, 32):
            system = mint(width, lines)
            self.assertEqual(save(remint(system, lines).system), save(system))
            # A staged and a pruned reader make the same.
            self.assertEqual(save(remint(staged(system), lines).system), save(system))
            fewer, _ = pruned(system, [system.number_of("read")])
            self.assertEqual(save(remint(fewer, lines).system), save(system))
            self.assertEqual(save(remint(load(save(fewer)), lines).system), save(system))

    def test_a_reader_that_is_stopped(self):
        luck = random.Random(132)
        session = Session.of(self.system())
        lines = [": x ( n -- n ) [: 1+ ;] run 1 1 ; 3 x .", "variable w ask w !", ": y { a b } a b + ; 1 2 y .", "w @ . : z 1"]
        machine = session.reader_machine("read", lines, feed=(9,))
        whole = machine.copy()
        whole.go(20000)
        self.assertEqual((whole.kind, whole.output), ("done", "4 3 9 "))
        while machine.kind == "runs":
            machine.go(luck.randint(1, 60))
            machine = load_run(save_run(machine))
        self.assertEqual(save_run(machine), save_run(whole))
        self.assertEqual(session.read_by("read", lines, feed=(9,)).steps, whole.steps)
        self.assertEqual(session.system, whole.store)

    def test_drawn_stores_on_many_ways(self):
        luck = random.Random(133)
        for _ in range(40):
            store = drawn.drawn_store(luck)
            number = luck.randrange(len(store))
            fewer, numbers = pruned(store, [number])
            word = numbers.index(number)
            if store[number].effect is None:
                continue
            stack = [luck.choice((0, 1, 2, 3)) for _ in range(store[number].verdict.ins)]
            plain = Machine(store.copy(), number, stack=stack, feed=(1, 0, 2), data=200, frames=200)
            plain.go(1500)
            if plain.kind not in ("done", "error"):
                continue
            told = (plain.kind, plain.number, plain.output, plain.feed, plain.store.memory.all_bytes())
            for other in (fewer, staged(fewer), load(save(staged(fewer)))):
                for kind in ("machine", "engine"):
                    named = {"stack": stack, "feed": (1, 0, 2), "data": 200, "frames": 200}
                    machine = Machine(other.copy(), word, **named) if kind == "machine" else Engine(Program(other, 3), other.copy(), word, **named)
                    machine.go(20000)
                    self.assertEqual((machine.kind, machine.number, machine.output, machine.feed, machine.store.memory.all_bytes()), told)
                    self.assertEqual(machine.stack, renumbered(plain.stack, numbers))


if __name__ == "__main__":
    import unittest
    unittest.main()
