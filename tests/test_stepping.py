"""Tracers: their deeds, why they stop, going back, and numbers that are given on the way."""

import random

from tests import drawn
from tests.helpers import Case, store_of
from tests.test_session import READER
from wordmint.errors import BadAddress, BadMoment, BadNumber, NoBreak, NoWord
from wordmint.machine import Machine, Rooms
from wordmint.makers import full_actions
from wordmint.reading import Source
from wordmint.session import Session
from wordmint.stepping import Break, Tracer, gone_with
from wordmint.system import System


def shown(machine):
    """All that a machine shows but its rooms; a step that found asks, over or deep does not count."""
    kind, number, stack, frames = machine.view()
    kind = kind if kind in ("done", "error") else "runs"
    store = machine.store
    told = [kind, number, stack, frames, machine.steps, machine.output, machine.feed, store.memory.all_bytes(),
            [word.plain() for word in store]]
    if isinstance(store, System):
        told.extend([store.lists.order, store.lists.count, store.lists.into, [one.plain() for one in store.opened], store.compiling,
                     store.caught, store.source.text(), store.source.where()])
    return told


class Counting(Machine):
    """A machine that counts all steps that it is told to do."""

    done = 0

    def step(self):
        self.done += 1
        return super().step()


class Base(Case):
    def tracer(self, text, *stack, older=(), **named):
        """A tracer of a word of a store with older words; the word is the last one."""
        store = store_of(*older, text)
        return Tracer(Machine(store, len(store) - 1, stack=stack, **named))


class Making(Base):
    def test_the_very_machine(self):
        machine = Machine(store_of("dup exit"), 0, stack=(3,))
        tracer = Tracer(machine)
        self.assertIs(tracer.machine, machine)
        self.assertEqual((tracer.moment, tracer.breaks, tracer.watches), (0, (), ()))
        tracer.step()
        self.assertEqual((machine.steps, machine.stack), (1, (3, 3)))
        tracer.back()
        self.assertIs(tracer.machine, machine)
        self.assertEqual((machine.steps, machine.stack), (0, (3,)))

    def test_moments_count_from_the_tracer(self):
        machine = Machine(store_of("lit#1 lit#2 lit#3 exit"), 0)
        machine.go(2)
        tracer = Tracer(machine)
        self.assertEqual(tracer.step(), ("reached", 1, 0, 3))
        self.assertEqual((tracer.moment, machine.steps), (1, 3))
        self.assertEqual(tracer.until(0), ("reached", 0, 0, 2))
        self.assertEqual((machine.steps, machine.stack), (2, (1, 2)))
        self.assertEqual(tracer.back(), ("reached", 0, 0, 2))
        self.assertEqual(machine.stack, (1, 2))

    def test_the_worked_example(self):
        tracer = self.tracer("dup * exit", 3)
        self.assertEqual([tracer.step(), tracer.step(), tracer.back()], [("reached", 1, 0, 1), ("reached", 2, 0, 2), ("reached", 1, 0, 1)])


class Deeds(Base):
    def test_step(self):
        tracer = self.tracer("lit#1 exit")
        self.assertEqual([tracer.step() for _ in range(3)], [("reached", 1, 0, 1), ("end", 2, None, None), ("end", 2, None, None)])
        tracer = self.tracer("lit#5 throw exit")
        self.assertEqual([tracer.step() for _ in range(3)], [("reached", 1, 0, 1), ("end", 2, None, None), ("end", 2, None, None)])
        tracer = self.tracer("lit#1 ask exit")
        self.assertEqual([tracer.step() for _ in range(3)], [("reached", 1, 0, 1), ("asks", 1, 0, 1), ("asks", 1, 0, 1)])
        tracer = self.tracer("lit#1 dup exit", *range(7), data=8)
        self.assertEqual([tracer.step() for _ in range(3)], [("reached", 1, 0, 1), ("end", 1, 0, 1), ("end", 1, 0, 1)])
        tracer = self.tracer("recurse exit", frames=2)
        self.assertEqual([tracer.step() for _ in range(3)], [("reached", 1, 0, 0), ("end", 1, 0, 0), ("end", 1, 0, 0)])

    def test_over(self):
        tracer = self.tracer("lit#1 call#1 drop call#1 exit", older=("lit#2 + exit", "call#0 call#0 exit"))
        self.assertEqual(tracer.over(), ("reached", 1, 2, 1))
        self.assertEqual(tracer.over(), ("reached", 11, 2, 2))
        self.assertEqual(tracer.step(), ("reached", 12, 2, 3))
        self.assertEqual(tracer.step(), ("reached", 13, 1, 0))
        # Within the call, up to its end, and out of it.
        self.assertEqual(tracer.over(), ("end", 16, None, None))
        tracer.until(2)
        self.assertEqual(tracer.over(), ("reached", 6, 1, 1))
        self.assertEqual(tracer.over(), ("reached", 10, 1, 2))
        self.assertEqual(tracer.over(), ("reached", 11, 2, 2))

    def test_over_at_the_last_frame(self):
        tracer = self.tracer("lit#1 exit")
        self.assertEqual([tracer.over() for _ in range(3)], [("reached", 1, 0, 1), ("end", 2, None, None), ("end", 2, None, None)])

    def test_out(self):
        older = ("lit#2 drop exit", "call#0 call#0 exit")
        tracer = self.tracer("lit#1 call#1 drop exit", older=older)
        self.assertEqual(tracer.out(), ("end", 13, None, None))
        self.assertEqual(tracer.out(), ("end", 13, None, None))
        tracer.until(4)
        self.assertEqual(tracer.machine.at(), (0, 1))
        self.assertEqual(tracer.out(), ("reached", 6, 1, 1))
        self.assertEqual(tracer.out(), ("reached", 11, 2, 2))

    def test_over_and_out_of_catches_and_throws(self):
        older = ("lit#7 throw exit", "call#0 exit", "call#1 exit")
        tracer = self.tracer("lit#5 token#2 catch#0 drop exit", older=older)
        tracer.until(2)
        self.assertEqual(tracer.over(), ("reached", 7, 3, 3))
        self.assertEqual(tracer.machine.stack, (5, 7))
        tracer.until(5)
        self.assertEqual(tracer.machine.at(), (0, 0))
        self.assertEqual(tracer.over(), ("reached", 6, 0, 1))
        self.assertEqual(tracer.over(), ("reached", 7, 3, 3))
        tracer.until(4)
        self.assertEqual((tracer.machine.at(), tracer.out()), ((1, 0), ("reached", 7, 3, 3)))
        tracer = self.tracer("call#2 exit", older=older)
        self.assertEqual(tracer.over(), ("end", 5, None, None))

    def test_tail_positions(self):
        tracer = self.tracer("lit#1 call#1 exit", older=("drop exit", "dup jump#0"))
        tracer.until(2)
        self.assertEqual(tracer.machine.at(), (1, 0))
        self.assertEqual(tracer.over(), ("reached", 3, 1, 1))
        self.assertEqual(tracer.over(), ("reached", 4, 0, 0))
        self.assertEqual(tracer.out(), ("reached", 6, 2, 2))
        tracer.until(2)
        self.assertEqual(tracer.out(), ("reached", 6, 2, 2))

    def test_go(self):
        tracer = self.tracer("lit#1 . exit")
        self.assertEqual(tracer.go(), ("end", 3, None, None))
        self.assertEqual(tracer.go(), ("end", 3, None, None))
        tracer = self.tracer("ask drop ask throw exit", feed=(5,))
        self.assertEqual([tracer.go(), tracer.go()], [("asks", 2, 0, 2)] * 2)
        tracer.give((7,))
        self.assertEqual(tracer.go(), ("end", 4, None, None))
        self.assertEqual((tracer.machine.kind, tracer.machine.number), ("error", 7))

    def test_until(self):
        tracer = self.tracer("lit#1 lit#2 lit#3 drop drop exit")
        self.assertEqual(tracer.until(3), ("reached", 3, 0, 3))
        self.assertEqual(tracer.until(3), ("reached", 3, 0, 3))
        self.assertEqual(tracer.until(1), ("reached", 1, 0, 1))
        self.assertEqual(tracer.machine.stack, (1,))
        self.assertEqual(tracer.until(6), ("end", 6, None, None))
        self.assertEqual(tracer.until(6), ("end", 6, None, None))
        self.assertEqual(tracer.until(99), ("end", 6, None, None))
        self.assertEqual(tracer.until(5), ("reached", 5, 0, 5))
        self.assertEqual(tracer.until(0), ("reached", 0, 0, 0))
        for moment in (-1, True, False, None, "1", (1,), [1]):
            self.fails(BadMoment, moment, tracer.until, moment)
        self.assertEqual(tracer.moment, 0)
        tracer = self.tracer("lit#1 ask exit")
        self.assertEqual([tracer.until(9), tracer.until(1), tracer.until(0)], [("asks", 1, 0, 1), ("asks", 1, 0, 1), ("reached", 0, 0, 0)])

    def test_20000_steps(self):
        rounds = "goto#1 goto#0"
        self.assertEqual(self.tracer(rounds).go(), ("limit", 20000, 0, 0))
        tracer = self.tracer("call#0 exit", older=(rounds,))
        tracer.step()
        self.assertEqual(tracer.over(), ("reached", 2, 0, 1))
        self.assertEqual(tracer.out(), ("limit", 20002, 0, 1))
        tracer = self.tracer("call#0 exit", older=(rounds,))
        self.assertEqual(tracer.over(), ("limit", 20000, 0, 1))
        tracer = self.tracer(rounds)
        self.assertEqual(tracer.until(20000), ("reached", 20000, 0, 0))
        self.assertEqual(tracer.until(40001), ("limit", 40000, 0, 0))
        self.assertEqual(tracer.until(40001), ("reached", 40001, 0, 1))

    # A round is five steps, the last one four, and the drop comes behind step 19994.
    ROUNDS = "lit#-1 + dup unless#5 goto#0 drop "

    def test_a_run_of_20000_steps_and_of_one_more(self):
        for more, told in ((0, ("end", 20000, None, None)), (1, ("limit", 20000, 0, 11))):
            tracer = self.tracer(self.ROUNDS + "lit#0 " * (4 + more) + "exit", 3999)
            self.assertEqual(tracer.go(), told)
            self.assertEqual(tracer.go(), ("end", 20000 + more, None, None))

    def test_what_is_due_at_the_last_step_goes_ahead_of_the_limit(self):
        tracer = self.tracer(self.ROUNDS + "lit#0 lit#0 lit#7 data#1 c! exit", 3999)
        tracer.watch(1)
        tracer.add_break(0, 11)
        self.assertEqual(tracer.go(), ("break", 20000, 0, 11))
        tracer.drop_break(0, 11)
        tracer.until(0)
        self.assertEqual(tracer.go(), ("watch", 20000, 0, 11))
        tracer.unwatch(1)
        tracer.until(0)
        self.assertEqual(tracer.go(), ("limit", 20000, 0, 11))

class Reasons(Base):
    def test_breaks(self):
        tracer = self.tracer("lit#3 lit#-1 + dup unless#6 goto#1 drop exit")
        tracer.add_break(0, 2)
        self.assertEqual(tracer.go(), ("break", 2, 0, 2))
        # Where the tracer stands does not count, only what is come to.
        self.assertEqual(tracer.go(), ("break", 7, 0, 2))
        self.assertEqual(tracer.over(), ("reached", 8, 0, 3))
        self.assertEqual(tracer.until(30), ("break", 12, 0, 2))
        self.assertEqual(tracer.out(), ("end", 17, None, None))
        tracer.until(1)
        self.assertEqual(tracer.step(), ("break", 2, 0, 2))
        tracer.drop_break(0, 2)
        self.assertEqual(tracer.go(), ("end", 17, None, None))

    def test_breaks_in_several_words(self):
        tracer = self.tracer("call#0 call#0 exit", older=("lit#1 drop exit",))
        tracer.add_break(1, 1)
        tracer.add_break(0, 0)
        tracer.add_break(0, 2)
        self.assertEqual(tracer.breaks, ((0, 0), (0, 2), (1, 1)))
        self.assertEqual(list(tracer.stops(9)), [("break", 1, 0, 0), ("break", 3, 0, 2), ("break", 4, 1, 1), ("break", 5, 0, 0), ("break", 7, 0, 2),
                                                 ("end", 9, None, None)])
        tracer.until(0)
        self.assertEqual([tracer.over(), tracer.out()], [("break", 1, 0, 0), ("break", 3, 0, 2)])

    def test_a_goto_to_itself(self):
        tracer = self.tracer("goto#0")
        tracer.add_break(0, 0)
        self.assertEqual([tracer.go(), tracer.step(), tracer.until(9)], [("break", 1, 0, 0), ("break", 2, 0, 0), ("break", 3, 0, 0)])

    def test_errors_of_breaks(self):
        tracer = self.tracer("dup exit", older=("exit",))
        for call in (tracer.add_break, tracer.drop_break):
            for number in (-1, 2, True, None, "0"):
                self.fails(NoWord, number, call, number, None)
            for place in (-1, 2, True, None, "0", (0,)):
                self.fails(NoBreak, place, call, 1, place)
            self.fails(NoBreak, 1, call, 0, 1)
        self.fails(NoBreak, 0, tracer.drop_break, 1, 0)
        tracer.add_break(1, 0)
        tracer.add_break(1, 0)
        self.assertEqual(tracer.breaks, ((1, 0),))
        tracer.drop_break(1, 0)
        self.fails(NoBreak, 0, tracer.drop_break, 1, 0)
        self.assertEqual(tracer.breaks, ())

    def test_watches(self):
        tracer = self.tracer("lit#7 data#1 c! lit#7 data#1 c! lit#8 data#0 ! lit#1 c, lit#-1 allot lit#0 c, exit")
        for address in (3, 1, 2, 1):
            tracer.watch(address)
        self.assertEqual(tracer.watches, (1, 2, 3))
        self.assertEqual(tracer.go(), ("watch", 3, 0, 3))
        # The same byte again is no change; then the cell is written.
        self.assertEqual(tracer.go(), ("watch", 9, 0, 9))
        # Bytes come, go and come.
        self.assertEqual([tracer.go(), tracer.go(), tracer.go()], [("watch", 11, 0, 11), ("watch", 13, 0, 13), ("watch", 15, 0, 15)])
        self.assertEqual(tracer.go(), ("end", 16, None, None))
        tracer.unwatch(2)
        tracer.unwatch(2)
        tracer.unwatch(7)
        self.assertEqual(tracer.watches, (1, 3))
        self.assertEqual(tracer.until(0), ("reached", 0, 0, 0))
        self.assertEqual([tracer.until(2), tracer.step(), tracer.over()], [("reached", 2, 0, 2), ("watch", 3, 0, 3), ("reached", 4, 0, 4)])
        self.assertEqual([tracer.out(), tracer.out()], [("watch", 9, 0, 9), ("end", 16, None, None)])

    def test_errors_of_watches(self):
        tracer = self.tracer("exit")
        for address in (-1, 2048, True, None, "0", (0,)):
            self.fails(BadAddress, address, tracer.watch, address)
            self.fails(BadAddress, address, tracer.unwatch, address)
        tracer.watch(2047)
        tracer.watch(0)
        self.assertEqual(tracer.watches, (0, 2047))

    def test_bytes_that_a_marker_puts_back(self):
        session = Session(16)
        session.read(["5 c, marker m 6 c, 7 here 1 - c! : go 9 2 c! m ;"])
        machine = Machine(session.system, session.system.number_of("m"), actions=full_actions())
        tracer = Tracer(machine)
        for address in (2, 3):
            tracer.watch(address)
        self.assertEqual(tracer.go(), ("end", 1, None, None))
        self.assertEqual(len(machine.store.memory), 3)
        self.assertEqual(tracer.back(), ("reached", 0, machine.at()[0], 0))
        self.assertEqual(machine.store.memory.all_bytes(), (10, 0, 5, 7))

    def test_their_order(self):
        # A break and a watch at once; a watch and the goal; the end ahead of a watch.
        tracer = self.tracer("lit#7 data#1 c! lit#1 drop lit#9 data#1 c! lit#5 throw exit")
        tracer.watch(1)
        tracer.add_break(0, 3)
        self.assertEqual(tracer.go(), ("break", 3, 0, 3))
        tracer.drop_break(0, 3)
        tracer.until(2)
        self.assertEqual(tracer.until(3), ("watch", 3, 0, 3))
        self.assertEqual(tracer.until(8), ("watch", 8, 0, 8))
        tracer.until(7)
        self.assertEqual(tracer.step(), ("watch", 8, 0, 8))
        tracer.add_break(0, 5)
        tracer.until(4)
        self.assertEqual(tracer.step(), ("break", 5, 0, 5))
        self.assertEqual(tracer.until(5), ("reached", 5, 0, 5))
        # A step that ends in an error may change bytes no more, but ends the run at a watch and a break.
        store = store_of("lit#3 c, exit")
        tracer = Tracer(Machine(store, 0))
        tracer.add_break(0, 2)
        tracer.watch(2)
        self.assertEqual([tracer.go(), tracer.go()], [("break", 2, 0, 2), ("end", 3, None, None)])
        # asks is told where a break stands.
        tracer = self.tracer("here drop ask exit")
        tracer.add_break(0, 2)
        self.assertEqual([tracer.go(), tracer.go(), tracer.step()], [("break", 2, 0, 2), ("asks", 2, 0, 2), ("asks", 2, 0, 2)])

    def test_going_back_tells_no_breaks_and_watches(self):
        tracer = self.tracer("lit#7 data#1 c! lit#1 drop exit")
        tracer.watch(1)
        for place in range(6):
            tracer.add_break(0, place)
        tracer.until(5)
        while tracer.moment < 5:
            tracer.go()
        for moment in range(4, -1, -1):
            self.assertEqual(tracer.back(), ("reached", moment, 0, moment))
        self.assertEqual(tracer.back(), ("reached", 0, 0, 0))

    def test_stops(self):
        tracer = self.tracer("ask . goto#0", feed=(1, 2, 3))
        tracer.add_break(0, 0)
        walk = tracer.stops(5)
        self.assertEqual(tracer.moment, 0)
        self.assertEqual([next(walk), next(walk)], [("break", 3, 0, 0), ("break", 6, 0, 0)])
        self.assertEqual(tracer.moment, 6)
        self.assertEqual(list(walk), [("break", 9, 0, 0), ("asks", 9, 0, 0), ("asks", 9, 0, 0)])
        self.assertEqual(list(tracer.stops(0)), [])
        tracer.give((99,))
        self.assertEqual(list(tracer.stops(2)), [("break", 12, 0, 0), ("asks", 12, 0, 0)])
        tracer = self.tracer("lit#5 throw exit")
        self.assertEqual(list(tracer.stops(9)), [("end", 2, None, None)])
        self.assertEqual(list(tracer.stops(9)), [("end", 2, None, None)])
        self.assertEqual(list(self.tracer("goto#0").stops(2)), [("limit", 20000, 0, 0), ("limit", 40000, 0, 0)])


class Blocks(Base):
    def test_breaks_of_a_block(self):
        tracer = self.tracer("lit#1 lit#2 lit#3 exit")
        tracer.add_break(0, 1)
        with Break(tracer, 0, 2) as held:
            self.assertEqual(tracer.breaks, ((0, 1), (0, 2)))
            self.assertIsInstance(held, Break)
            with Break(tracer, 0, 1):
                self.assertEqual(tracer.breaks, ((0, 1), (0, 2)))
            self.assertEqual(tracer.breaks, ((0, 1), (0, 2)))
        self.assertEqual(tracer.breaks, ((0, 1),))

    def test_breaks_that_are_changed_in_it(self):
        tracer = self.tracer("lit#1 lit#2 lit#3 exit")
        tracer.add_break(0, 1)
        with Break(tracer, 0, 2):
            tracer.drop_break(0, 1)
            tracer.drop_break(0, 2)
            tracer.add_break(0, 3)
            self.assertEqual(tracer.breaks, ((0, 3),))
        self.assertEqual(tracer.breaks, ((0, 1),))

    def test_an_error_that_leaves_it(self):
        tracer = self.tracer("lit#1 lit#2 exit")
        with self.assertRaises(KeyError):
            with Break(tracer, 0, 2):
                tracer.step()
                raise KeyError("x")
        self.assertEqual((tracer.breaks, tracer.moment), ((), 1))

    def test_errors_when_it_is_made(self):
        tracer = self.tracer("lit#1 exit")
        for call in (Break, gone_with):
            self.fails(NoWord, 1, call, tracer, 1, 0)
            self.fails(NoWord, True, call, tracer, True, None)
            self.fails(NoBreak, 2, call, tracer, 0, 2)
            self.fails(NoBreak, None, call, tracer, 0, None)
        self.assertEqual(tracer.breaks, ())

    def test_used_again(self):
        tracer = self.tracer("lit#3 lit#-1 + dup unless#6 goto#1 drop exit")
        spot = Break(tracer, 0, 3)
        self.assertEqual(tracer.breaks, ())
        for moment in (3, 8):
            with spot:
                self.assertEqual(tracer.go(), ("break", moment, 0, 3))
            self.assertEqual(tracer.breaks, ())

    def test_made_ahead_of_another_block(self):
        tracer = self.tracer("lit#1 lit#2 lit#3 exit")
        spot = Break(tracer, 0, 2)
        with Break(tracer, 0, 1):
            with spot:
                self.assertEqual(tracer.breaks, ((0, 1), (0, 2)))
            self.assertEqual(tracer.breaks, ((0, 1),))
        self.assertEqual(tracer.breaks, ())

    def test_gone_with(self):
        tracer = self.tracer("lit#3 lit#-1 + dup unless#6 goto#1 drop exit")
        self.assertEqual(gone_with(tracer, 0, 5), ("break", 5, 0, 5))
        self.assertEqual(tracer.breaks, ())
        tracer.add_break(0, 2)
        self.assertEqual(gone_with(tracer, 0, 2), ("break", 7, 0, 2))
        self.assertEqual(tracer.breaks, ((0, 2),))
        tracer.drop_break(0, 2)
        self.assertEqual(gone_with(tracer, 0, 0), ("end", 17, None, None))


class GoingBack(Base):
    def test_stores(self):
        session = Session(16)
        session.read(["create c 5 , defer d 0 0 : a 65 emit ;"])
        session.read([": go 1 c @ + c ! [: a ;] is d d new-list also 7 c, ask drop : 3 literal postpone ; : postpone [: <mark ;"])
        number = session.system.number_of("go")
        session.system.source = Source(("x ( -- n ) y z",))
        machine = Machine(session.system, number, actions=full_actions(), feed=(9,))
        tracer = Tracer(machine)
        plain = machine.copy()
        table = [shown(plain)]
        while plain.step() == "runs":
            table.append(shown(plain))
        table.append(shown(plain))
        last = len(table) - 1
        self.assertEqual(tracer.go()[:2], ("end", last))
        self.assertGreater(last, 30)
        for moment in range(last - 1, -1, -1):
            tracer.back()
            self.assertEqual(shown(machine), table[moment])
        self.assertEqual(tracer.go()[:2], ("end", last))
        self.assertEqual(shown(machine), table[last])
        for moment in (0, last, 3, last - 1, 1, last - 1):
            tracer.until(moment)
            self.assertEqual(shown(machine), table[moment])

    def test_rooms_stay(self):
        tracer = self.tracer("lit#1 lit#2 lit#3 drop drop drop recurse exit", *range(8), data=64, frames=9)
        tracer.until(40)
        machine = tracer.machine
        with Rooms(machine, 11, 6):
            self.assertEqual(tracer.until(20), ("reached", 20, 0, 6))
            self.assertEqual((machine.data, machine.frames), (11, 6))
            # What was done once with more room can be gone back to.
            machine.frames = 1
            self.assertEqual(tracer.until(10)[1], 10)
            self.assertEqual((machine.data, machine.frames), (11, 1))
            self.assertEqual(tracer.go()[:2], ("end", 13))
            self.assertEqual(machine.kind, "deep")
            self.assertEqual((tracer.back()[:2], machine.kind), (("reached", 12), "runs"))
        self.assertEqual((machine.data, machine.frames), (64, 9))

    def test_less_room_than_there_was(self):
        tracer = self.tracer("lit#1 lit#2 lit#3 drop drop drop recurse exit", *range(8))
        tracer.until(27)
        machine = tracer.machine
        self.assertEqual(len(machine.stack), 8)
        with Rooms(machine, 8, 9):
            self.assertEqual((tracer.until(9), len(machine.stack), machine.data), (("reached", 9, 0, 2), 10, 8))
            self.assertEqual((tracer.until(7), machine.stack), (("reached", 7, 0, 0), tuple(range(8))))
            self.assertEqual((tracer.go(), machine.kind), (("end", 7, 0, 0), "over"))

    def test_going_back_does_not_begin_anew(self):
        machine = Counting(store_of("lit#1 + dup drop goto#0"), 0, stack=(0,))
        tracer = Tracer(machine)
        for _ in range(4):
            tracer.go()
        for moment in (79999, 60000, 40001, 100, 99):
            machine.done = 0
            tracer.until(moment)
            self.assertLess(machine.done, 1000)
            self.assertEqual(machine.steps, moment)

    def test_ends_that_were_found(self):
        tracer = self.tracer("lit#1 dup exit", *range(7), data=8)
        self.assertEqual(tracer.go(), ("end", 1, 0, 1))
        self.assertEqual((tracer.back(), tracer.machine.kind), (("reached", 0, 0, 0), "runs"))
        tracer = self.tracer("ask exit")
        self.assertEqual([tracer.go(), tracer.back()], [("asks", 0, 0, 0), ("asks", 0, 0, 0)])
        tracer = self.tracer("lit#1 exit")
        tracer.go()
        self.assertEqual([tracer.back(), tracer.back(), tracer.back()], [("reached", 1, 0, 1), ("reached", 0, 0, 0), ("reached", 0, 0, 0)])

    def test_long_runs(self):
        tracer = self.tracer("lit#1 + dup drop goto#0", 0)
        for _ in range(4):
            self.assertEqual(tracer.go()[0], "limit")
        self.assertEqual(tracer.moment, 80000)
        for moment in (79999, 79000, 40000, 39999, 17, 16, 12345):
            self.assertEqual(tracer.until(moment)[:2], ("reached", moment))
            rounds, rest = divmod(moment, 5)
            self.assertEqual((tracer.machine.steps, tracer.machine.stack[0]), (moment, rounds + (1 if rest >= 2 else 0)))
        for _ in range(300):
            tracer.back()
        self.assertEqual((tracer.moment, tracer.machine.steps), (12045, 12045))

class Given(Base):
    def test_numbers_are_there_from_their_moment_on(self):
        tracer = self.tracer("lit#0 ask + ask + ask + . exit")
        self.assertEqual(tracer.go(), ("asks", 1, 0, 1))
        tracer.give((1,))
        self.assertEqual((tracer.machine.kind, tracer.machine.feed), ("runs", (1,)))
        self.assertEqual(tracer.go(), ("asks", 3, 0, 3))
        tracer.give([2, 3])
        tracer.give((4,))
        self.assertEqual(tracer.machine.feed, (2, 3, 4))
        self.assertEqual(tracer.go(), ("end", 9, None, None))
        self.assertEqual((tracer.machine.output, tracer.machine.feed), ("6 ", (4,)))
        told = []
        for moment in range(9, -1, -1):
            tracer.until(moment)
            told.append(tracer.machine.feed)
        self.assertEqual(told, [(4,), (4,), (4,), (4,), (3, 4), (3, 4), (2, 3, 4), (), (1,), ()])
        self.assertEqual(tracer.go(), ("end", 9, None, None))
        self.assertEqual(tracer.machine.output, "6 ")

    def test_given_anew_behind_going_back(self):
        tracer = self.tracer("lit#0 ask + ask + ask + . exit")
        for number in (1, 2, 3):
            tracer.go()
            tracer.give((number,))
        tracer.go()
        self.assertEqual(tracer.machine.output, "6 ")
        # At moment 3 the 2 is there; giving once more forgets the 3 that came later, and not what was given there.
        tracer.until(3)
        self.assertEqual(tracer.machine.feed, (2,))
        tracer.give((70,))
        self.assertEqual(tracer.machine.feed, (2, 70))
        self.assertEqual(tracer.go(), ("end", 9, None, None))
        self.assertEqual((tracer.machine.output, tracer.machine.feed), ("73 ", ()))
        tracer.until(0)
        tracer.give((10,))
        self.assertEqual(tracer.machine.feed, (10,))
        self.assertEqual((tracer.go(), tracer.machine.feed), (("asks", 3, 0, 3), ()))
        tracer.until(1)
        self.assertEqual(tracer.machine.feed, (10,))

    def test_giving_none_forgets_nothing(self):
        tracer = self.tracer("ask ask + . exit")
        tracer.go()
        tracer.give((1,))
        tracer.go()
        tracer.give((2,))
        tracer.go()
        for none in ((), []):
            tracer.until(0)
            tracer.give(none)
            self.assertEqual(tracer.go(), ("end", 5, None, None))
            self.assertEqual(tracer.machine.output, "3 ")

    def test_a_run_that_has_ended(self):
        tracer = self.tracer("lit#1 exit")
        tracer.go()
        tracer.give((5,))
        self.assertEqual((tracer.machine.feed, tracer.back(), tracer.machine.feed), ((5,), ("reached", 1, 0, 1), ()))
        tracer.go()
        self.assertEqual(tracer.machine.feed, (5,))

    def test_errors(self):
        tracer = self.tracer("ask ask + . exit", feed=(1,))
        tracer.go()
        for numbers, wrong in (((1, True, None), True), ((32768,), 32768), ((-32769,), -32769), ((1, (0,)), (0,)), (("1",), "1")):
            self.fails(BadNumber, wrong, tracer.give, numbers)
        self.assertEqual((tracer.machine.kind, tracer.machine.feed), ("asks", ()))
        # Nothing is forgotten then.
        tracer.give((5,))
        tracer.until(0)
        self.fails(BadNumber, True, tracer.give, (7, True))
        self.assertEqual((tracer.machine.feed, tracer.go(), tracer.machine.output), ((1,), ("end", 5, None, None), "6 "))

    def test_a_machine_that_asked_already(self):
        machine = Machine(store_of("ask . exit"), 0)
        machine.go(5)
        tracer = Tracer(machine)
        self.assertEqual([tracer.go(), tracer.step(), tracer.over()], [("asks", 0, 0, 0)] * 3)
        tracer.give((5,))
        self.assertEqual(tracer.go(), ("end", 3, None, None))
        self.assertEqual((tracer.until(0), machine.feed), (("reached", 0, 0, 0), (5,)))


class AnyDeeds(Base):
    """Whatever deeds are done: at each moment the machine is as one that has done so many steps without a tracer."""

    def plain_at(self, machine, gifts, moment):
        plain = machine.copy()
        plain.data, plain.frames = 200, 200
        for at in range(moment + 1):
            for number in gifts.get(at, ()):
                plain.give((number,))
            if at < moment:
                steps = plain.steps
                plain.step()
                self.assertEqual(plain.steps, steps + 1)
        return shown(plain)

    def test_drawn_deeds(self):
        luck = random.Random(111)
        reasons = {}
        for turn in range(60):
            store = drawn.drawn_store(luck)
            number = luck.randrange(len(store))
            machine = Machine(store, number, stack=[luck.choice((0, 1, 2, 3)) for _ in range(6)], feed=(1,), data=luck.choice((9, 64)),
                              frames=luck.choice((3, 48)))
            begin = machine.copy()
            tracer = Tracer(machine)
            gifts = {}
            for _ in range(25):
                lot = luck.random()
                if lot < 0.5:
                    stop = getattr(tracer, luck.choice(("step", "over", "out", "back", "back", "step")))()
                elif lot < 0.6:
                    stop = tracer.until(luck.randint(0, min(tracer.moment + 40, 400)))
                elif lot < 0.7:
                    stop = tracer.until(luck.randint(0, tracer.moment))
                elif lot < 0.8:
                    chosen = luck.randrange(len(store))
                    tracer.add_break(chosen, luck.randrange(len(store[chosen].body)))
                    stop = tracer.step()
                elif lot < 0.9:
                    numbers = [luck.choice((0, 1, 5)) for _ in range(luck.randint(0, 2))]
                    tracer.give(numbers)
                    if numbers:
                        gifts = {at: gifts[at] for at in gifts if at <= tracer.moment}
                        gifts.setdefault(tracer.moment, []).extend(numbers)
                    stop = tracer.until(tracer.moment)
                else:
                    tracer.watch(luck.randint(0, 6))
                    stop = tracer.until(min(tracer.moment + 30, 400))
                reasons[stop[0]] = reasons.get(stop[0], 0) + 1
                self.assertEqual(stop[1:], (tracer.moment, *(machine.at() or (None, None))))
                if tracer.moment > 500:
                    break
                self.assertEqual(shown(machine), self.plain_at(begin, gifts, tracer.moment))
        self.assertLessEqual({"end", "asks", "break", "reached"}, set(reasons))

    def test_a_reader(self):
        session = Session(16)
        session.read(READER)
        luck = random.Random(112)
        machine = session.reader_machine("read", [": x 1 2 + . ; x", "create c 5 , c @ ask + . new-list also : y [: 1", ";] ; x"], feed=(4,))
        begin = machine.copy()
        tracer = Tracer(machine)
        last = tracer.go()[1]
        self.assertEqual(machine.kind, "done")
        for _ in range(40):
            tracer.until(luck.randint(0, last))
            self.assertEqual(shown(machine), self.plain_at(begin, {}, tracer.moment))
            stop = luck.choice((tracer.back, tracer.over, tracer.out))()
            self.assertEqual(shown(machine), self.plain_at(begin, {}, tracer.moment), stop)


if __name__ == "__main__":
    import unittest
    unittest.main()
