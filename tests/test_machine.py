"""The machine: every instruction, its errors and their order, rooms, frames, and runs that are cut into parts."""

import unittest

from tests import reference
from tests.helpers import Case, ops, run, store_of
from wordmint.errors import BadItem, BadNumber, BadRoom, NoWord
from wordmint.forms import BUILDING
from wordmint.machine import Machine, Rooms, ended, within
from wordmint.stores import Store

# For each instruction what it takes (n a number, t a token, x any item), and how many items more it leaves.
TAKES = {
    "lit#1": ("", 1), "data#4": ("", 1), "token#0": ("", 1),
    "dup": ("x", 1), "drop": ("x", -1), "swap": ("xx", 0), "over": ("xx", 1), "rot": ("xxx", 0),
    ">r": ("x", -1), "r>": ("", 1), "r@": ("", 1),
    "+": ("nn", -1), "-": ("nn", -1), "*": ("nn", -1), "/": ("nn", -1), "mod": ("nn", -1), "and": ("nn", -1),
    "or": ("nn", -1), "xor": ("nn", -1), "=": ("nn", -1), "<": ("nn", -1), "u<": ("nn", -1), "invert": ("n", 0),
    "0=": ("n", 0), "@": ("n", 0), "!": ("nn", -2), "c@": ("n", 0), "c!": ("nn", -2), "here": ("", 1),
    "allot": ("n", -1), ",": ("n", -1), "c,": ("n", -1), "cell": ("", 1), ".": ("n", -1), "emit": ("n", -1),
    "type": ("nn", -2), "ask": ("", 1), "unless#0": ("n", -1), "throw": ("n", -1), "perform": ("t", -1),
    "run#0,0": ("t", -1), "run#2,1": ("xxt", -1), "run#0,3": ("t", -1), "catch#0": ("t", -1), "catch#2": ("xxt", -1), "is#1": ("t", -1),
    "call#0": ("", 0), "recurse": ("", 0), "jump#0": ("", 0), "goto#0": ("", 0), "exit": ("", 0),
}
ROOM = 8


def begun(text, *stack, feed=(), data=64, frames=48, store=None, own=(), locals_=()):
    """A machine that stands ahead of an instruction, with own items and locals laid into its frame."""
    store = small_store() if store is None else store
    number = store.define(ops(text))
    machine = Machine(store, number, stack=stack, feed=feed, data=data, frames=frames)
    machine.calls[0].own = list(own)
    machine.calls[0].locals = list(locals_)
    return machine


def small_store(width=16):
    """Word 0 does nothing, word 1 is deferred without an action."""
    store = Store(width)
    store.define(ops("exit"))
    store.defer((0, 0))
    return store


class Ordinary(Case):
    """Each instruction of the table when nothing is wrong."""

    def leaves(self, text, before, after, **named):
        machine = begun(text + " exit", *before, **named)
        self.assertEqual(machine.step(), "runs")
        self.assertEqual(machine.stack, after)
        self.assertEqual((machine.steps, machine.number), (1, 0))
        return machine

    def test_items(self):
        self.leaves("lit#-5", (1,), (1, -5))
        self.leaves("data#2048", (), (2048,))
        self.leaves("token#0", (), ((0,),))
        self.leaves("dup", (1, (0,)), (1, (0,), (0,)))
        self.leaves("drop", (1, (0,)), (1,))
        self.leaves("swap", (1, (0,), 2), (1, 2, (0,)))
        self.leaves("over", (1, (0,), 2), (1, (0,), 2, (0,)))
        self.leaves("rot", (9, 1, (0,), 3), (9, (0,), 3, 1))

    def test_the_place_goes_on(self):
        for text in TAKES:
            if text.partition("#")[0] not in ("unless", "perform", "run", "catch", "is", "ask", "type", "@", "call",
                                              "recurse", "jump", "goto", "exit"):
                stack = [0 if kind != "t" else (0,) for kind in TAKES[text][0]]
                if text in ("/", "mod"):
                    stack[1] = 3
                if text == "emit":
                    stack = [65]
                machine = self.leaves(text, (9, 9) + tuple(stack), begun_stack(text, stack), own=[7])
                self.assertEqual(machine.at(), (2, 1), text)

    def test_own_items(self):
        machine = self.leaves(">r", (1, (0,)), (1,))
        self.assertEqual(machine.view()[3], ((2, 1, ((0,),), (), None),))
        machine = self.leaves("r>", (1,), (1, 6), own=(5, 6))
        self.assertEqual(machine.view()[3], ((2, 1, (5,), (), None),))
        machine = self.leaves("r@", (1,), (1, (0,)), own=(5, (0,)))
        self.assertEqual(machine.view()[3], ((2, 1, (5, (0,)), (), None),))

    def test_arithmetic(self):
        for op, result in (("+", 4), ("-", -10), ("*", -21), ("/", -1), ("mod", 4), ("and", 5), ("or", -1),
                           ("xor", -6), ("=", 0), ("<", -1), ("u<", 0)):
            self.leaves(op, (1, -3, 7), (1, result))
        self.leaves("invert", (5,), (-6,))
        self.leaves("0=", (0,), (-1,))
        self.leaves("0=", (1,), (0,))
        self.leaves("+", (32767, 1), (-32768,))
        self.leaves("/", (-32768, -1), (-32768,))
        self.leaves("+", (32767, 1), (32768,), store=small_store(24))

    def test_memory(self):
        store = small_store()
        for byte in (1, 2, 3, 255):
            store.memory.add_byte(byte)
        self.leaves("@", (0,), (10,), store=store.copy())
        self.leaves("@", (3,), (0x0302,), store=store.copy())
        self.leaves("@", (4,), (-253,), store=store.copy())
        self.leaves("c@", (5,), (255,), store=store.copy())
        self.leaves("here", (), (6,), store=store.copy())
        machine = self.leaves("!", (7, -2, 1), (7,), store=store.copy())
        self.assertEqual(machine.store.memory.all_bytes(), (10, 254, 255, 2, 3, 255))
        machine = self.leaves("c!", (-2, 5), (), store=store.copy())
        self.assertEqual(machine.store.memory.all_bytes(), (10, 0, 1, 2, 3, 254))
        machine = self.leaves("c!", (515, 0), (), store=store.copy())
        self.assertEqual(machine.store.memory[0], 3)

    def test_growing(self):
        self.assertEqual(self.leaves("allot", (3,), ()).store.memory.all_bytes(), (10, 0, 0, 0, 0))
        self.assertEqual(self.leaves("allot", (0,), ()).store.memory.all_bytes(), (10, 0))
        self.assertEqual(self.leaves(",", (-2,), ()).store.memory.all_bytes(), (10, 0, 254, 255))
        self.assertEqual(self.leaves("c,", (-2,), ()).store.memory.all_bytes(), (10, 0, 254))
        self.assertEqual(self.leaves("c,", (256,), ()).store.memory.all_bytes(), (10, 0, 0))
        store = small_store()
        store.memory.grow(5)
        self.assertEqual(self.leaves("allot", (-5,), (), store=store).store.memory.all_bytes(), (10, 0))

    def test_cell(self):
        for width in (16, 24, 32):
            self.leaves("cell", (), (width // 8,), store=small_store(width))

    def test_printing(self):
        self.assertEqual(self.leaves(".", (-255,), ()).output, "-255 ")
        for base, text in ((2, "-11111111 "), (16, "-ff "), (36, "-73 ")):
            store = small_store()
            store.memory[0] = base
            self.assertEqual(self.leaves(".", (-255,), (), store=store).output, text)
        self.assertEqual(self.leaves("emit", (65,), ()).output, "A")
        self.assertEqual(self.leaves("emit", (10,), ()).output, "\n")
        store = small_store()
        for sign in "Hi~\n":
            store.memory.add_byte(ord(sign))
        self.assertEqual(self.leaves("type", (2, 4), (), store=store.copy()).output, "Hi~\n")
        self.assertEqual(self.leaves("type", (3, 1), (), store=store.copy()).output, "i")
        for address in (0, 6, 7, -1, 32767):
            self.assertEqual(self.leaves("type", (address, 0), (), store=store.copy()).output, "")
        self.assertEqual(run("lit#1 . lit#42 emit lit#-2 . exit").output, "1 *-2 ")

    def test_ask(self):
        machine = self.leaves("ask", (1,), (1, 5), feed=(5, 6))
        self.assertEqual(machine.feed, (6,))

    def test_locals(self):
        machine = begun("locals#3 local#0 local#2 set#1 local#1 exit", 9, 1, (0,), 3)
        self.assertEqual((machine.step(), machine.stack), ("runs", (9,)))
        self.assertEqual(machine.view()[3], ((2, 1, (), (1, (0,), 3), None),))
        machine.go(2)
        self.assertEqual(machine.stack, (9, 1, 3))
        machine.step()
        self.assertEqual((machine.stack, machine.view()[3][0][3]), ((9, 1), (1, 3, 3)))
        machine.step()
        self.assertEqual(machine.stack, (9, 1, 3))

    def test_locals_that_are_named_again(self):
        machine = run("locals#1 local#0 unless#5 lit#0 goto#0 exit", 5)
        self.assertEqual((machine.kind, machine.steps), ("done", 9))

    def test_goto_and_unless(self):
        self.assertEqual(self.leaves("goto#2 drop", (1,), (1,)).at(), (2, 2))
        self.assertEqual(self.leaves("unless#2 drop", (1, 0), (1,)).at(), (2, 2))
        self.assertEqual(self.leaves("unless#2 drop", (1, 5), (1,)).at(), (2, 1))
        self.assertEqual(self.leaves("unless#2 drop", (1, -1), (1,)).at(), (2, 1))

    def test_calls(self):
        machine = self.leaves("call#0 drop", (1,), (1,))
        self.assertEqual(machine.view()[3], ((2, 1, (), (), None), (0, 0, (), (), None)))
        self.assertEqual((machine.step(), machine.at()), ("runs", (2, 1)))
        machine = self.leaves("recurse", (1,), (1,))
        self.assertEqual(machine.view()[3], ((2, 1, (), (), None), (2, 0, (), (), None)))
        machine = self.leaves("perform", (1, (0,)), (1,))
        self.assertEqual(machine.view()[3], ((2, 1, (), (), None), (0, 0, (), (), None)))

    def test_jump(self):
        machine = begun("jump#0", 1, locals_=(4,))
        machine.step()
        self.assertEqual(machine.view(), ("runs", 0, (1,), ((0, 0, (), (), None),)))

    def test_exit(self):
        machine = begun("exit", 1, (0,))
        self.assertEqual(machine.step(), "done")
        self.assertEqual(machine.view(), ("done", 0, (1, (0,)), ()))
        self.assertIsNone(machine.at())

    def test_throw(self):
        self.leaves("throw", (1, 0), (1,))

    def test_run(self):
        store = store_of("dup exit", ("exit", (2, 2)))
        machine = self.leaves("run#1,2", (1, (0,)), (1,), store=store.copy())
        self.assertEqual(machine.view()[3], ((2, 1, (), (), None), (0, 0, (), (), None)))
        self.leaves("run#4,5", (1, 2, 3, (1,), (0,)), (1, 2, 3, (1,)), store=store.copy())
        self.leaves("run#3,3", (1, 2, 3, (1,)), (1, 2, 3), store=store.copy())

    def test_catch(self):
        store = store_of("swap exit")
        machine = self.leaves("catch#2", (7, 8, 9, (0,)), (7, 8, 9), store=store.copy())
        self.assertEqual(machine.view()[3], ((1, 1, (), (), None), (0, 0, (), (), (7, 8, 9))))
        machine.go(2)
        self.assertEqual((machine.stack, machine.at()), ((7, 9, 8, 0), (1, 1)))
        self.leaves("catch#3", (7, 8, 9, (0,)), (7, 8, 9), store=store.copy())

    def test_is(self):
        store = small_store()
        machine = self.leaves("is#1", (1, (0,)), (1,), store=store)
        self.assertEqual((machine.store[1].action, store[1].action), (0, 0))

    def test_deferred(self):
        store = store_of("dup exit")
        store.defer((1, 2), action=0)
        store.define(ops("call#1 exit"))
        machine = Machine(store, 2, stack=(5,))
        machine.step()
        self.assertEqual(machine.view()[3][1:], ((1, 0, (), (), None),))
        machine.step()
        self.assertEqual(machine.view()[3][1:], ((0, 0, (), (), None),))
        machine.go(9)
        self.assertEqual((machine.kind, machine.stack, machine.steps), ("done", (5, 5), 5))

    def test_a_deferred_word_under_a_catch_goes_on_with_what_is_kept(self):
        store = small_store()
        store.act(1, 0)
        machine = run("lit#1 token#1 catch#0 exit", store=store)
        self.assertEqual((machine.kind, machine.stack), ("done", (1, 0)))
        store.act(1, store.define(ops("lit#7 throw exit")))
        machine = run("lit#1 token#1 catch#0 exit", store=store)
        self.assertEqual((machine.kind, machine.stack), ("done", (1, 7)))


def begun_stack(text, stack):
    """What test_the_place_goes_on has behind its instruction, by a machine of another kind: that of the table."""
    results = {
        "lit#1": (1,), "data#4": (4,), "token#0": ((0,),), "dup": (0, 0), "over": (0, 0, 0), "r>": (7,), "r@": (7,),
        "=": (-1,), "invert": (-1,), "0=": (-1,), "c@": (10,), "here": (2,), "cell": (2,),
        "swap": (0, 0), "rot": (0, 0, 0),
    }
    more = len(stack) + TAKES[text][1]
    return (9, 9) + results.get(text, (0,) * more)


class Wrong(Case):
    """Each instruction in each of its errors."""

    def throws(self, error, text, *stack, **named):
        machine = begun(text + " exit", *stack, **named)
        bytes_before = machine.store.memory.all_bytes()
        output = machine.output
        self.assertEqual(machine.step(), "error", text)
        self.assertEqual((machine.number, machine.stack, machine.view()[3], machine.at(), machine.steps),
                         (error, (), (), None, 1), text)
        self.assertEqual((machine.store.memory.all_bytes(), machine.output), (bytes_before, output))
        return machine

    def items(self, kinds):
        """Good items for these kinds."""
        return [(0,) if kind == "t" else 3 for kind in kinds]

    def test_too_few_items(self):
        for text, (kinds, more) in TAKES.items():
            for count in range(len(kinds)):
                # What is there is of the wrong kind, too: the count goes ahead.
                for item in (3, (0,)):
                    self.throws(-1, text, *([item] * count), own=(1,))
        for count in range(3):
            self.throws(-1, "locals#3", *([1] * count))
        self.throws(-1, "locals#8", *([1] * 7))

    def test_too_few_items_for_set(self):
        machine = run("locals#1 set#0 exit", 1)
        self.assertEqual((machine.kind, machine.number, machine.steps), ("error", -1, 2))

    def test_wrong_kinds(self):
        for text, (kinds, more) in TAKES.items():
            for at, kind in enumerate(kinds):
                wrong = {"n": ((0,),), "t": (0, 5), "x": ()}[kind]
                for item in wrong:
                    stack = self.items(kinds)
                    stack[at] = item
                    self.throws(-4, text, 1, 1, *stack, own=(1,))

    def test_over(self):
        for text, (kinds, more) in TAKES.items():
            stack = [3] * ROOM
            stack[ROOM - len(kinds):] = self.items(kinds)
            machine = begun(text + " exit", *stack, data=ROOM)
            if more > 0:
                # The room is looked at ahead of the own item that is lacking, and of the empty feed.
                self.assertEqual(machine.step(), "over", text)
                self.assertEqual((machine.steps, machine.stack, machine.at()), (0, tuple(stack), (2, 0)))
                self.assertEqual(machine.step(), "over")
            else:
                machine.step()
                self.assertNotEqual(machine.kind, "over", text)
        machine = begun("locals#1 local#0 exit", *([3] * ROOM), data=ROOM)
        machine.go(2)
        machine.pile.append(4)
        machine.calls[0].place = 1
        self.assertEqual(machine.step(), "over")

    def test_one_item_less_fits(self):
        for text, (kinds, more) in TAKES.items():
            if more > 0:
                stack = [3] * (ROOM - 1)
                machine = begun(text + " exit", *stack, data=ROOM, own=(1,), feed=(1,))
                self.assertEqual((machine.step(), len(machine.stack)), ("runs", ROOM), text)

    def test_kinds_go_ahead_of_over(self):
        # Of all instructions that leave more than they take none asks for a kind, so errors come from the count.
        machine = begun("over exit", *([3] * 1), data=ROOM)
        self.assertEqual((machine.step(), machine.number), ("error", -1))

    def test_own_errors(self):
        self.throws(-2, "r>", 1)
        self.throws(-2, "r@", 1)
        self.throws(-3, "exit", 1, own=(1,))
        self.throws(-3, "jump#0", 1, own=(1,))
        self.throws(-6, "/", 1, 0)
        self.throws(-6, "mod", 1, 0)
        self.throws(5, "throw", 5)
        self.throws(-32768, "throw", -32768)
        self.throws(-9, "throw", -9)

    def test_addresses(self):
        for width in (16, 24, 32):
            size = width // 8
            top = (1 << (width - 1)) - 1
            for address in (1, -1, size, top, -top - 1):
                self.throws(-5, "@", address, store=small_store(width))
                self.throws(-5, "!", 7, address, store=small_store(width))
            for address in (size, -1, top, -top - 1):
                self.throws(-5, "c@", address, store=small_store(width))
                self.throws(-5, "c!", 7, address, store=small_store(width))
        for address, count in ((0, -1), (5, -1), (0, 3), (2, 1), (-1, 1), (1, 2), (32767, 32767)):
            self.throws(-5, "type", address, count)

    def test_room_in_the_memory(self):
        for count in (-1, -2, 2047, 32767, -32768):
            self.throws(-7, "allot", count)
        store = small_store()
        store.memory.grow(2045)
        self.throws(-7, ",", 1, store=store.copy())
        self.throws(-7, "allot", 2, store=store.copy())
        store.memory.grow(1)
        self.throws(-7, "c,", 1, store=store.copy())

    def test_codes_and_bases(self):
        for code in (0, 9, 11, 31, 37, 127, 256 + 65, -1, 32767):
            self.throws(-10, "emit", code)
        store = small_store()
        for code in (65, 37, 66):
            store.memory.add_byte(code)
        self.throws(-10, "type", 2, 3, store=store.copy())
        self.throws(-10, "type", 1, 1, store=store.copy())
        self.throws(-5, "type", 2, 4, store=store.copy())
        for base in (0, 1, 37, 255):
            other = small_store()
            other.memory[0] = base
            self.throws(-17, ".", 5, store=other)
        other = small_store()
        other.memory[1] = 1
        self.throws(-17, ".", 5, store=other)

    def test_effects_that_do_not_fit(self):
        store = store_of("dup exit", "perform exit")
        store.defer((0, 1))
        for text in ("run#1,1", "run#0,1", "run#2,2", "catch#1"):
            self.throws(-8, text, 1, 1, (0,), store=store.copy())
        for text in ("run#0,0", "catch#0"):
            self.throws(-8, text, (1,), store=store.copy())
        self.throws(-8, "is#0", (0,), store=store.copy())
        self.throws(-8, "is#2", (0,), store=store.copy())
        self.throws(-8, "is#2", (1,), store=store.copy())

    def test_building_acts_without_acts(self):
        for op in BUILDING:
            for stack in ((), (1,), ((0,),), (1,) * ROOM):
                machine = begun(op + " exit", *stack, data=ROOM)
                self.assertEqual((machine.step(), machine.number, machine.steps), ("error", -11, 1), op)

    def test_forget_without_acts(self):
        machine = run("exit")
        store = machine.store
        word = store[0]
        word.body = ops("forget exit")
        machine = Machine(store, 0, stack=(1,) * ROOM, data=ROOM)
        self.assertEqual((machine.step(), machine.number), ("error", -11))

    def test_building_acts_can_be_caught(self):
        store = store_of("word drop exit")
        machine = run("token#0 catch#0 exit", store=store)
        self.assertEqual((machine.kind, machine.stack), ("done", (-11,)))

    def test_no_action(self):
        store = small_store()
        machine = run("call#1 exit", store=store)
        self.assertEqual((machine.kind, machine.number, machine.steps), ("error", -9, 2))
        machine = run("lit#4 token#1 catch#0 exit", store=small_store())
        self.assertEqual((machine.kind, machine.stack), ("done", (4, -9)))


class Halts(Case):
    def test_deep(self):
        store = store_of(("recurse exit", (0, 0)))
        machine = Machine(store, 0, frames=5)
        self.assertEqual(machine.go(100), "deep")
        self.assertEqual((machine.steps, machine.at(), len(machine.view()[3]), machine.number), (4, (0, 0), 5, 0))
        self.assertEqual((machine.step(), machine.go(5), machine.steps), ("deep", "deep", 4))
        for text, stack in (("call#0", ()), ("perform", ((0,),)), ("run#0,0", ((0,),)), ("catch#0", ((0,),)),
                            ("recurse", ())):
            machine = begun(text + " exit", 7, *stack, frames=1)
            self.assertEqual((machine.step(), machine.stack, machine.steps), ("deep", (7,) + stack, 0))
            self.assertEqual(machine.at(), (2, 0))

    def test_effects_go_ahead_of_deep(self):
        store = store_of("dup exit")
        for text in ("run#0,0", "catch#0"):
            machine = begun(text + " exit", (0,), frames=1, store=store.copy())
            self.assertEqual((machine.step(), machine.number), ("error", -8))

    def test_jumps_need_no_frame(self):
        store = small_store()
        store.act(1, 0)
        store.define(ops("jump#1"))
        machine = Machine(store, 2, frames=1)
        self.assertEqual((machine.go(9), machine.steps), ("done", 3))

    def test_over_and_deep_are_not_caught(self):
        store = store_of("lit#1 lit#1 drop drop exit", ("recurse exit", (0, 0)))
        machine = run("token#0 catch#0 exit", *([5] * 7), store=store.copy(), data=8)
        self.assertEqual((machine.kind, machine.steps, machine.stack), ("over", 3, (5,) * 7 + (1,)))
        self.assertEqual(machine.view()[3][1], (0, 1, (), (), (5,) * 7))
        machine = run("token#1 catch#0 exit", store=store.copy())
        self.assertEqual((machine.kind, len(machine.view()[3])), ("deep", 48))

    def test_asks(self):
        machine = begun("ask ask exit", feed=(1,))
        self.assertEqual((machine.go(9), machine.steps, machine.stack), ("asks", 1, (1,)))
        self.assertEqual((machine.step(), machine.at(), machine.steps), ("asks", (2, 1), 1))
        machine.give([])
        self.assertEqual(machine.kind, "asks")
        machine.give([7, 8])
        self.assertEqual((machine.kind, machine.feed), ("runs", (7, 8)))
        self.assertEqual((machine.go(9), machine.stack, machine.feed, machine.steps), ("done", (1, 7), (8,), 3))
        machine.give((9,))
        self.assertEqual((machine.kind, machine.feed), ("done", (8, 9)))

    def test_asks_is_found_by_the_step(self):
        machine = begun("ask exit")
        self.assertEqual(machine.kind, "runs")
        self.assertEqual(machine.go(0), "runs")
        self.assertEqual(machine.step(), "asks")

    def test_giving_ahead(self):
        machine = begun("ask ask + exit")
        machine.give([3])
        machine.give((4,))
        self.assertEqual((machine.go(9), machine.stack), ("done", (7,)))

    def test_giving_wrong_numbers(self):
        machine = begun("ask exit")
        machine.step()
        for thing in (32768, -32769, True, None, "1", (0,)):
            self.fails(BadNumber, thing, machine.give, [1, thing, None])
            self.assertEqual((machine.kind, machine.feed), ("asks", ()))

    def test_a_run_that_has_ended_stays_so(self):
        machine = begun("lit#1 throw exit")
        self.assertEqual(machine.go(9), "error")
        before = machine.view() + (machine.steps,)
        machine.give([1])
        machine.step()
        machine.go(5)
        self.assertEqual(machine.view() + (machine.steps,), before)
        self.assertEqual(machine.feed, (1,))


class Caught(Case):
    def test_worked_example(self):
        store = store_of("lit#9 throw exit", "lit#5 token#0 catch#0 exit")
        machine = ended(store, 1)
        self.assertEqual((machine.kind, machine.stack, machine.steps), ("done", (5, 9), 6))

    def test_what_an_error_puts_back(self):
        store = store_of("drop drop lit#4 c, lit#66 emit ask drop lit#7 throw lit#1 lit#1 exit")
        self.assertEqual(store[0].effect, (2, 2))
        machine = run("catch#2 exit", 1, 2, (0,), store=store, feed=(5, 6))
        self.assertEqual((machine.kind, machine.stack), ("done", (1, 2, 7)))
        self.assertEqual((machine.output, machine.feed, len(machine.store.memory)), ("B", (6,), 3))

    def test_errors_end_all_frames_above_the_catch(self):
        store = store_of("lit#0 lit#3 >r throw r> drop exit", "call#0 exit", "lit#8 call#1 drop exit")
        store.define(ops("lit#2 >r lit#-4 throw r> drop exit"))
        store.define(ops("lit#6 call#3 drop exit"))
        store.define(ops("lit#5 call#4 drop exit"))
        machine = run("lit#1 token#5 catch#0 lit#9 exit", store=store)
        self.assertEqual((machine.kind, machine.stack), ("done", (1, -4, 9)))

    def test_catch_within_catch(self):
        store = store_of("lit#3 throw exit", "lit#5 token#0 catch#0 throw drop exit", "token#1 catch#0 exit")
        self.assertEqual(ended(store, 1).number, 3)
        machine = ended(store, 2)
        self.assertEqual((machine.kind, machine.stack), ("done", (3,)))
        store = store_of("lit#3 throw exit", "token#0 catch#0 lit#1 + throw exit", "token#1 catch#0 exit")
        self.assertEqual(ended(store, 2).stack, (4,))
        store = store_of("exit", "token#0 catch#0 throw exit", "token#1 catch#0 exit")
        machine = ended(store, 2)
        self.assertEqual((machine.kind, machine.stack), ("done", (0,)))

    def test_the_systems_own_errors_are_caught(self):
        for text, number in (("lit#1 lit#0 / drop", -6), ("token#0 invert drop", -4), ("lit#-1 @ drop", -5),
                             ("lit#3000 allot", -7), ("token#0 run#1,1 drop drop", -1), ("token#0 run#0,1 drop", -8),
                             ("lit#7 emit", -10), ("lit#99 lit#0 c! lit#1 .", -17)):
            store = store_of("exit")
            caught = store.define(ops(text + " exit"), declared=(1, 1))
            machine = run("token#%d perform exit" % caught, store=store.copy())
            self.assertEqual((machine.kind, machine.number), ("error", number), text)
            if store[caught].effect is not None:
                machine = run("lit#5 token#%d catch#1 exit" % caught, store=store)
                self.assertEqual((machine.kind, machine.stack), ("done", (5, number)), text)

    def test_own_items_that_are_left(self):
        # Such a word is refused, so perform alone can run it.
        store = store_of("lit#1 >r exit")
        store.define(ops("token#0 perform exit"))
        machine = run("token#1 perform exit", store=store)
        self.assertEqual((machine.kind, machine.number), ("error", -3))

    def test_kept_items_stand_above_a_smaller_room(self):
        store = store_of("lit#7 throw exit")
        machine = run("token#0 catch#0 exit", *([5] * 7), store=store, data=8)
        self.assertEqual((machine.kind, machine.stack), ("done", (5,) * 7 + (7,)))
        machine = Machine(store, 1, stack=[5] * 20)
        machine.go(2)
        machine.data = 8
        # The room is smaller than the stack now; the error is put there all the same.
        machine.calls[1].place = 1
        machine.pile.append(7)
        self.assertEqual((machine.step(), machine.stack), ("runs", (5,) * 20 + (7,)))

    def test_a_stack_above_its_room_may_still_get_shorter(self):
        store = store_of("drop " * 8 + "lit#7 throw " + "lit#0 " * 8 + "exit", "token#0 catch#8 swap dup exit")
        machine = Machine(store, 1, stack=[5] * 12)
        machine.go(10)
        self.assertEqual(len(machine.stack), 4)
        self.assertEqual(within(machine, 2, data=8, frames=2), "runs")
        self.assertEqual((len(machine.stack), machine.at()), (13, (1, 2)))
        machine.data = 8
        self.assertEqual((machine.step(), machine.stack[-3:]), ("runs", (5, 7, 5)))
        self.assertEqual((machine.step(), len(machine.stack), machine.at()), ("over", 13, (1, 3)))

    def test_exit_of_a_caught_word_does_not_look_at_the_room(self):
        machine = run("token#0 catch#0 exit", *([5] * 7), store=store_of("exit"), data=8)
        self.assertEqual((machine.kind, machine.stack), ("done", (5,) * 7 + (0,)))

    def test_jump_keeps_what_is_kept(self):
        store = store_of("lit#6 throw exit", "jump#0")
        machine = run("lit#1 token#1 catch#0 exit", store=store)
        self.assertEqual((machine.kind, machine.stack), ("done", (1, 6)))

    def test_is_stays_behind_an_error(self):
        store = small_store()
        store.define(ops("token#0 is#1 lit#5 throw exit"))
        machine = run("token#2 catch#0 call#1 exit", store=store)
        self.assertEqual((machine.kind, machine.stack, store[1].action), ("done", (5,), 0))


class Made(Case):
    def test_at_the_beginning(self):
        store = store_of("exit", "dup exit")
        machine = Machine(store, 1, stack=[1, (0,)], feed=[5], data=9, frames=3)
        self.assertIs(machine.store, store)
        self.assertEqual((machine.kind, machine.number, machine.steps, machine.output), ("runs", 0, 0, ""))
        self.assertEqual((machine.data, machine.frames, machine.stack, machine.feed), (9, 3, (1, (0,)), (5,)))
        self.assertEqual(machine.view(), ("runs", 0, (1, (0,)), ((1, 0, (), (), None),)))
        self.assertEqual(machine.at(), (1, 0))
        machine = Machine(store, 0)
        self.assertEqual((machine.data, machine.frames, machine.stack, machine.feed), (64, 48, (), ()))

    def test_lists_are_copied(self):
        stack, feed = [1], [2]
        machine = Machine(store_of("ask exit"), 0, stack=stack, feed=feed)
        stack.append(3)
        feed.append(4)
        self.assertEqual((machine.stack, machine.feed), ((1,), (2,)))
        given = [9]
        machine.give(given)
        machine.go(9)
        self.assertEqual((stack, feed, given), ([1, 3], [2, 4], [9]))

    def test_errors(self):
        store = store_of("exit", "exit")
        for number in (-1, 2, True, None, "0", (0,)):
            self.fails(NoWord, number, Machine, store, number)
        for item in (32768, -32769, True, None, "1", (2,), (-1,), (), (0, 0), (True,), (None,), [0], ((0,),)):
            self.fails(BadItem, item, Machine, store, 0, stack=(1, (1,), item, None))
        for number in (32768, True, None, "1", (0,), [1]):
            self.fails(BadNumber, number, Machine, store, 0, feed=(1, number, None))
        for room in (7, 201, 0, -1, True, None, "64", (64,), 64.0):
            self.fails(BadRoom, room, Machine, store, 0, data=room)
        for room in (0, 201, -1, True, None, "48", (48,), 48.0):
            self.fails(BadRoom, room, Machine, store, 0, frames=room)
        self.fails(BadRoom, 9, Machine, store, 0, stack=(1,) * 10, data=9)
        self.fails(BadRoom, 64, Machine, store, 0, stack=(1,) * 65)

    def test_bounds(self):
        store = store_of("exit")
        Machine(store, 0, data=8, frames=1)
        Machine(store, 0, data=200, frames=200, stack=(1,) * 200)
        Machine(store, 0, stack=(32767, -32768, (0,)), feed=(32767, -32768))
        Machine(store_of("exit", width=32), 0, stack=(1 << 30,))

    def test_errors_in_order(self):
        store = store_of("exit")
        self.fails(NoWord, 1, Machine, store, 1, stack=[None], feed=[None], data=0, frames=0)
        self.fails(BadItem, None, Machine, store, 0, stack=[None], feed=[None], data=0, frames=0)
        self.fails(BadNumber, None, Machine, store, 0, feed=[None], data=0, frames=0)
        self.fails(BadRoom, 0, Machine, store, 0, data=0, frames=201)
        self.fails(BadRoom, 201, Machine, store, 0, frames=201)

    def test_the_store_is_changed(self):
        store = small_store()
        run("lit#5 c, token#0 is#1 exit", store=store)
        self.assertEqual((len(store.memory), store[1].action), (3, 0))

    def test_ended_works_on_a_copy(self):
        store = small_store()
        number = store.define(ops("lit#5 c, token#0 is#1 ask exit"))
        machine = ended(store, number, 4, (0,), feed=[7])
        self.assertEqual((machine.kind, machine.stack), ("done", (4, (0,), 7)))
        self.assertEqual((len(store.memory), store[1].action), (2, None))
        self.assertEqual((len(machine.store.memory), machine.store[1].action), (3, 0))
        self.assertEqual((machine.data, machine.frames, machine.actions), (64, 48, None))

    def test_ended_stops(self):
        store = store_of("goto#0")
        self.assertEqual((ended(store, 0).kind, ended(store, 0).steps), ("runs", 20000))
        self.assertEqual((ended(store, 0, steps=7).kind, ended(store, 0, steps=7).steps), ("runs", 7))
        self.assertEqual(ended(store, 0, steps=0).steps, 0)
        self.fails(NoWord, 1, ended, store, 1, None)
        self.fails(BadItem, None, ended, store, 0, 1, None, feed=[None])
        self.fails(BadNumber, None, ended, store, 0, feed=[None])


class Roomy(Case):
    def machine(self):
        return begun("lit#1 " * 30 + "exit", 5)

    def test_rooms_within_the_block(self):
        machine = self.machine()
        with Rooms(machine, 8, 3):
            self.assertEqual((machine.data, machine.frames), (8, 3))
            with Rooms(machine, 200, 200):
                self.assertEqual((machine.data, machine.frames), (200, 200))
            self.assertEqual((machine.data, machine.frames), (8, 3))
        self.assertEqual((machine.data, machine.frames), (64, 48))

    def test_rooms_come_back_behind_an_error(self):
        machine = self.machine()
        with self.assertRaises(KeyError):
            with Rooms(machine, 8, 3):
                raise KeyError
        self.assertEqual((machine.data, machine.frames), (64, 48))

    def test_rooms_are_those_from_before_the_block(self):
        machine = self.machine()
        rooms = Rooms(machine, 8, 3)
        machine.data = 20
        self.assertEqual((machine.data, machine.frames), (20, 48))
        with rooms:
            self.assertEqual((machine.data, machine.frames), (8, 3))
        self.assertEqual((machine.data, machine.frames), (20, 48))
        with rooms:
            self.assertEqual((machine.data, machine.frames), (8, 3))
        self.assertEqual((machine.data, machine.frames), (20, 48))

    def test_errors(self):
        machine = self.machine()
        machine.go(9)
        for room in (7, 201, 9, True, None, "10"):
            self.fails(BadRoom, room, Rooms, machine, room, 0)
            self.fails(BadRoom, room, within, machine, 5, data=room, frames=0)
        for room in (0, 201, True, None):
            self.fails(BadRoom, room, Rooms, machine, 10, room)
            self.fails(BadRoom, room, within, machine, 5, data=10, frames=room)
        self.assertEqual((machine.steps, machine.data, machine.frames), (9, 64, 48))

    def test_within(self):
        machine = self.machine()
        self.assertEqual(within(machine, 100, data=20, frames=1), "over")
        self.assertEqual((len(machine.stack), machine.steps, machine.data, machine.frames), (20, 19, 64, 48))
        self.assertEqual(within(machine, 100, data=200, frames=1), "over")
        machine = self.machine()
        self.assertEqual(within(machine, 3, data=20, frames=1), "runs")
        self.assertEqual((machine.steps, machine.go(100)), (3, "done"))


class Parts(Case):
    """A run that is cut into parts is the unbroken run."""

    def state(self, machine):
        return (machine.view(), machine.steps, machine.output, machine.feed, machine.store.memory.all_bytes(),
                [word.plain() for word in machine.store])

    def runs(self):
        """Machines at their beginning, made anew."""
        for seed in (5, 6):
            for store in reference.stores(seed, 60):
                for number in range(len(store)):
                    yield Machine(store.copy(), number, stack=(1, 0, 3), feed=(1, 0, 1, 0), data=12, frames=6)

    def test_by_steps_and_parts(self):
        for machine in self.runs():
            whole, steps, parts, copied, roomy, told = [machine.copy() for _ in range(6)]
            whole.go(60)
            for _ in range(60):
                steps.step()
            for count in (1, 0, 7, 2, 50):
                parts.go(count)
            for _ in range(60):
                copied = copied.copy()
                copied.step()
            for _ in range(20):
                within(roomy, 3, data=12, frames=6)
            places = list(told.moments(60))
            self.assertEqual(self.state(whole), self.state(steps))
            self.assertEqual(self.state(whole), self.state(parts))
            self.assertEqual(self.state(whole), self.state(copied))
            self.assertEqual(self.state(whole), self.state(roomy))
            self.assertEqual(self.state(whole), self.state(told))
            self.assertIn(len(places) - whole.steps, (0, 1))
            self.assertEqual(self.state(machine)[1], 0)

    def test_given_in_parts(self):
        store = store_of("ask ask ask ask exit")
        whole = Machine(store, 0, feed=(1, 2, 3, 4))
        whole.go(9)
        parts = Machine(store, 0)
        while parts.go(9) == "asks":
            parts.give([parts.steps + 1])
        self.assertEqual(self.state(whole), self.state(parts))

    def test_a_copy_goes_its_own_way(self):
        store = small_store()
        machine = begun("lit#5 >r lit#6 c, token#0 is#1 ask r> lit#65 emit exit", 9, feed=(3,), store=store)
        machine.go(4)
        other = machine.copy()
        self.assertEqual(self.state(machine), self.state(other))
        before = self.state(machine)
        other.go(99)
        self.assertEqual((other.kind, other.stack), ("done", (9, 3, 5)))
        self.assertEqual(self.state(machine), before)
        self.assertIsNone(store[1].action)
        machine.go(99)
        self.assertEqual(self.state(machine), self.state(other))

    def test_a_copy_of_a_run_that_has_ended(self):
        for text in ("lit#1 throw exit", "exit", "ask exit", "lit#1 goto#0"):
            machine = run(text)
            other = machine.copy()
            self.assertEqual(self.state(machine), self.state(other))
            self.assertEqual((other.data, other.frames, other.number), (64, 48, machine.number))

    def test_moments(self):
        machine = begun("lit#1 call#0 exit")
        moments = machine.moments(10)
        self.assertEqual(machine.steps, 0)
        self.assertEqual((next(moments), machine.steps), ((2, 0), 0))
        self.assertEqual((next(moments), machine.steps), ((2, 1), 1))
        self.assertEqual(list(moments), [(0, 0), (2, 2)])
        self.assertEqual((machine.kind, machine.steps), ("done", 4))
        self.assertEqual(list(machine.moments(5)), [])

    def test_moments_are_at_most_so_many(self):
        machine = begun("goto#0")
        moments = machine.moments(2)
        self.assertEqual((next(moments), next(moments), machine.steps), ((2, 0), (2, 0), 1))
        self.assertRaises(StopIteration, next, moments)
        self.assertEqual(machine.steps, 2)
        self.assertEqual(list(machine.moments(0)), [])

    def test_moments_see_what_happens_between(self):
        machine = begun("ask exit")
        moments = machine.moments(9)
        next(moments)
        self.assertRaises(StopIteration, next, moments)
        self.assertEqual(machine.kind, "asks")
        moments = machine.moments(9)
        machine.give([4])
        self.assertEqual(list(moments), [(2, 0), (2, 1)])
        self.assertEqual(machine.kind, "done")


class LetBy(Case):
    def test_promises_about_words_that_are_let_by(self):
        for store in reference.stores(9, 400):
            for number, word in enumerate(store):
                verdict = word.verdict
                if word.effect is None:
                    continue
                for more, feed in ((0, (0, 1, 1)), (2, (1, 1, 0, 0))):
                    stack = (0, 1, 5, -1, 0, 2, 1, 0)[:verdict.ins + more]
                    if len(stack) < verdict.ins:
                        continue
                    rooms = {} if verdict.rise is None else {
                        "data": max(8, len(stack) + verdict.rise), "frames": verdict.frames}
                    machine = Machine(store.copy(), number, stack=stack, feed=feed, **rooms)
                    self.goes_well(machine, verdict, len(stack))

    def goes_well(self, machine, verdict, length):
        op = ""
        for number, place in machine.moments(300):
            op = machine.store[number].body[place][0]
        if machine.kind == "error" and op != "throw":
            self.assertNotIn(machine.number, (-1, -2, -3))
        if machine.kind == "done":
            self.assertEqual(len(machine.stack), length + verdict.outs - verdict.ins)
            self.assertIsNotNone(verdict.row)
        if verdict.rise is not None:
            self.assertNotIn(machine.kind, ("over", "deep"))


if __name__ == "__main__":
    unittest.main()
