"""Images: what is saved line for line, what is loaded again, and which line is the first wrong one."""

import random

from tests import drawn, reference
from tests.helpers import Case, ops, store_of
from wordmint.errors import BadImage, StillOpen
from wordmint.machine import Machine
from wordmint.makers import full_actions
from wordmint.saving import load, save
from wordmint.session import Session
from wordmint.stages import staged
from wordmint.stores import Store
from wordmint.system import KERNEL, System

FIRST = len(KERNEL)
TEXT = [
    ": constant create , [: @ ;] behave ; 5 constant five : w ( a b -- c ) five + * ; defer d 1 1 : set is d ;",
    ": id ; ' id set marker m : x { a b } a to b b 1 catch 3 run 2 0 ; immediate new-list also defer e 0 8",
    "create q 40 allot ' base behave : = 0 ; : == -1 ; 2 into : = 7 ; defer f 0 1 : setf is f ; ' = setf marker n",
]


def system_of(*lines, width=16):
    session = Session(width)
    outcome = session.read(list(lines) if lines else TEXT)
    assert outcome, (outcome.kind, outcome.number, outcome.line, outcome.column)
    return session.system


class Lines(Case):
    def test_a_store(self):
        store = Store(16)
        self.assertEqual(save(store), ["store 16", "bytes 0a00", "end"])
        store.define(ops("dup * exit"), name="sq")
        self.assertEqual(save(store), ["store 16", "bytes 0a00", "plain =sq -1 later - dup * exit", "end"])
        store = Store(24)
        store.define(ops("lit#-5 lit#0 data#2048 exit"), immediate=True)
        store.defer((8, 0), name="d")
        store.defer((0, 3), name="=", action=0)
        store.define(ops("locals#2 local#1 set#0 token#0 is#1 run#8,0 catch#8 call#0 unless#9 goto#9 jump#0"), declared=(8, 7))
        store.memory.add_byte(255)
        self.assertEqual(save(store), [
            "store 24", "bytes 0a0000ff", "plain = -1 now - lit -5 lit 0 data 2048 exit", "deferred =d -1 later 8:0 -",
            "deferred == -1 later 0:3 0",
            "plain = -1 later 8:7 locals 2 local 1 set 0 token 0 is 1 run 8 0 catch 8 call 0 unless 9 goto 9 jump 0", "end"])

    def test_a_system(self):
        self.assertEqual(save(System(32)), ["system 32", "lists 2 1 1 0", "bytes 0a000000", "end"])
        told = save(system_of())
        self.assertEqual(told, [
            "system 16", "lists 3 2 2 1 0", "bytes 0a000500" + "00" * 28, "bytes " + "00" * 12,
            "quote - @ exit", f"plain =constant 1 later - create , token {FIRST} behave exit", f"made =five 1 later 2 {FIRST}",
            f"plain =w 1 later 2:1 call {FIRST + 2} + * exit", f"deferred =d 1 later 1:1 {FIRST + 6}",
            f"plain =set 1 later - is {FIRST + 4} exit", "plain =id 1 later - exit", "marker =m 1 later", "lists 2 1 1 0",
            "bytes 0a000500", f"actions {FIRST + 6}",
            "plain =x 1 now - locals 2 local 0 set 1 local 1 lit 1 catch 3 run 2 0 exit", "deferred =e 1 later 0:8 -",
            f"made =q 1 later 4 {KERNEL.index('base')}", "plain == 1 later - lit 0 exit", "plain === 1 later - lit -1 exit",
            "plain == 2 later - lit 7 exit", f"deferred =f 2 later 0:1 {FIRST + 13}", f"plain =setf 2 later - is {FIRST + 14} exit",
            "marker =n 2 later", "lists 3 2 2 1 0", "bytes 0a000500" + "00" * 28, "bytes " + "00" * 12,
            f"actions {FIRST + 6} - {FIRST + 13}", "end"])

    def test_a_marker_without_deferred_words(self):
        system = system_of("marker m")
        self.assertEqual(save(system)[3:], ["marker =m 1 later", "lists 2 1 1 0", "bytes 0a00", "actions", "end"])

    def test_bytes(self):
        for width, length, sizes in ((16, 2, [2]), (16, 31, [31]), (24, 32, [32]), (32, 33, [32, 1]), (16, 64, [32, 32]), (16, 65, [32, 32, 1]),
                                     (32, 2048, [32] * 64)):
            store = Store(width)
            store.memory.grow(length - width // 8)
            for at in range(width // 8, length):
                store.memory[at] = at % 251
            lines = save(store)[1:-1]
            self.assertEqual([len(line) for line in lines], [6 + 2 * size for size in sizes])
            self.assertEqual("".join([line[6:] for line in lines]), "".join([f"{byte:02x}" for byte in store.memory]))
            self.assertEqual(load(save(store)), store)

    def test_what_is_returned_belongs_to_the_caller(self):
        store = store_of("exit")
        lines = save(store)
        lines.append("x")
        self.assertEqual(save(store), lines[:-1])
        lines = save(store)
        copy = list(lines)
        load(lines)
        self.assertEqual(lines, copy)


class StillOpens(Case):
    def test_open_definitions(self):
        for text, name in ((": x 1", "x"), (": out [: 1 [: 2", "out"), (": = [", "=")):
            self.fails(StillOpen, name, save, system_of(text))
        self.assertEqual(save(system_of(": x 1", ";"))[3:], ["plain =x 1 later - lit 1 exit", "end"])


class Loaded(Case):
    def same(self, store):
        image = save(store)
        other = load(image)
        self.assertIs(other.__class__, store.__class__)
        self.assertEqual(other, store)
        self.assertEqual(save(other), image)
        self.assertEqual([word.verdict for word in other], [word.verdict for word in store])
        self.assertEqual([word.plain() for word in other], [word.plain() for word in store])
        return other

    def test_drawn_stores(self):
        luck = random.Random(81)
        for turn in range(40):
            store = drawn.drawn_store(luck, luck.choice((16, 24, 32))) if turn % 3 else reference.some_store(luck)
            self.same(store)
            self.same(staged(store))

    def test_systems(self):
        for width in (16, 24, 32):
            system = system_of(width=width)
            other = self.same(system)
            self.assertEqual((other.lists, other.opened, other.compiling, other.source.text(), other.caught),
                             (system.lists, [], False, (), ""))
            self.same(staged(system))
            self.same(System(width))

    def test_it_goes_its_own_way(self):
        system = system_of()
        other = self.same(system)
        Session.of(other).read([": y 1 ;"])
        session = Session.of(other)
        self.assertTrue(session.read([": y 3 4 w ; y .", "n m"]))
        self.assertEqual(other, system)
        self.assertIsNone(session.system.find("m"))
        other.memory.add_byte(1)
        other.lists.new()
        self.assertNotEqual(other, system)
        number = system.number_of("d")
        other.act(number, None)
        self.assertEqual(system[number].action, FIRST + 6)

    def test_runs_in_loaded_systems(self):
        system = system_of()
        for name, stack in (("w", (1, 2)), ("d", (4,)), ("x", (1, 2)), ("f", ()), ("n", ()), ("q", ())):
            ends = []
            for store in (system.copy(), load(save(system))):
                machine = Machine(store, system.number_of(name), stack=stack, actions=full_actions())
                machine.go(99)
                ends.append((machine.view(), machine.steps, save(store)))
            self.assertEqual(ends[0], ends[1])

    def test_400_words(self):
        store = Store(16)
        for number in range(400):
            store.define(ops("exit" if number == 0 else f"call#{number - 1} exit"))
        self.same(store)
        image = save(store)
        self.fails(BadImage, 402, load, image[:-1] + ["plain = -1 later - exit", "end"])
        system = System(16)
        while len(system) < 400:
            system.define(ops("exit"))
        self.same(system)
        image = save(system)
        for line in ("plain = 1 later - exit", "quote - exit", "made =x 1 later 2 -", "deferred =x 1 later 0:0 -", "marker =x 1 later"):
            self.fails(BadImage, len(image) - 1, load, image[:-1] + [line, "end"])

    def test_long_bodies(self):
        store = Store(16)
        store.define(ops("lit#1 drop " * 3499 + "lit#-32768 exit"))
        store.define(ops("goto#6999 " + "dup " * 6998 + "exit"))
        self.same(store)
        image = save(store)
        self.fails(BadImage, 2, load, image[:2] + [image[2][:-4] + "drop exit", None])
        self.same(store_of("lit#1 " * 201 + "exit", "drop " * 200 + "exit", "drop " * 201 + "exit"))

    def test_lists_and_orders(self):
        session = Session(16)
        session.read(["previous"])
        self.assertEqual(save(session.system)[1], "lists 2 1 0")
        self.same(session.system)
        session = Session(16)
        session.read(["new-list new-list new-list new-list new-list new-list also also also also also also 7 into : x ;"])
        self.assertEqual(save(session.system)[1], "lists 8 7 2 3 4 5 6 7 1 0")
        self.same(session.system)
        session.read(["0 into : y ; 3 into : z ; immediate"])
        self.same(session.system)

    def test_effects(self):
        store = store_of("+ + + + + + + drop exit", "lit#1 " * 8 + "exit", "drop " * 9 + "exit", "lit#1 " * 9 + "exit",
                         ("drop " * 8 + "exit", (8, 0)), ("lit#1 " * 8 + "exit", (0, 8)))
        self.assertEqual([word.effect for word in store], [(8, 0), (0, 8), (9, 0), (0, 9), (8, 0), (0, 8)])
        store.defer((8, 0), action=0)
        store.defer((8, 8))
        self.same(store)
        # A word that takes nine items does not fit any effect that can be declared.
        image = save(store)
        self.assertEqual(image[8:], ["deferred = -1 later 8:0 0", "deferred = -1 later 8:8 -", "end"])
        self.fails(BadImage, 10, load, image[:8] + ["deferred = -1 later 8:0 2"] + image[9:])
        for effect in ("9:0", "0:9", "8", "8:", ":8", "8:8:8", "-1:0", "08:0", "10:0", "a:b", "8;8", "", "None", "8:0-", "+8:0", "--"):
            self.fails(BadImage, 9, load, image[:9] + [f"deferred = -1 later {effect} -"] + image[10:])
            self.fails(BadImage, 7, load, image[:7] + [f"plain = -1 later {effect} exit"] + image[8:])

    def test_nameless_and_odd_names(self):
        system = system_of(": = ; : == ; : =x= ; : -1 ; : x\"y ;")
        system.define(ops("exit"))
        self.assertEqual([line.split()[1] for line in save(system)[3:-1]], ["==", "===", "==x=", "=-1", "=x\"y", "="])
        self.same(system)

    def test_tuples_of_lines(self):
        store = store_of("exit")
        self.assertEqual(load(tuple(save(store))), store)


class Wrong(Case):
    """Each line with each thing wrong in it, alone and with another fault behind it."""

    def setUp(self):
        self.image = save(system_of())
        self.store = Store(24)
        self.store.define(ops("lit#-5 lit#0 data#2048 dup exit"), name="a")
        self.store.defer((0, 4), name="d", action=0)
        self.store.define(ops("locals#2 local#1 token#0 is#1 run#2,0 catch#3 unless#7 jump#0"), declared=(3, 1), immediate=True)

    def wrong(self, image, at, *lines):
        """Each of these lines is wrong at its place, whatever comes behind it."""
        for line in lines:
            changed = image[:at] + [line] + image[at + 1:]
            self.fails(BadImage, at, load, changed)
            for behind in range(at + 1, len(image)):
                self.fails(BadImage, at, load, changed[:behind] + ["?"] + changed[behind + 1:])
            self.fails(BadImage, at, load, changed[:at + 1])
            self.fails(BadImage, at, load, changed + ["end"])

    def test_no_lines(self):
        for lines in ([], (), None, 5, "store 16", [None], [5], [("store", 16)], [["store 16"]], [b"store 16"]):
            self.fails(BadImage, 0, load, lines)

    def test_missing_and_more_lines(self):
        for image in (self.image, save(self.store)):
            for count in range(len(image)):
                self.fails(BadImage, count, load, image[:count])
            self.fails(BadImage, len(image), load, image + ["end"])
            self.fails(BadImage, len(image), load, image + [""])
            self.fails(BadImage, len(image), load, image + [None, "x"])
            self.fails(BadImage, len(image), load, image + ["plain =x 1 later - exit", "end"])
            self.fails(BadImage, len(image), load, image + image)

    def test_lines_twice_and_left_out(self):
        image = save(self.store)
        for lines, at in ((image, 0), (image, 1), (self.image, 0), (self.image, 1), (self.image, 3), (self.image, 12), (self.image, 14)):
            self.fails(BadImage, at + 1, load, lines[:at + 1] + lines[at:])
        self.fails(BadImage, 1, load, self.image[:1] + self.image[2:])
        self.fails(BadImage, 2, load, self.image[:2] + self.image[4:])
        self.fails(BadImage, 12, load, self.image[:12] + self.image[13:])
        self.fails(BadImage, 13, load, self.image[:13] + self.image[14:])
        self.fails(BadImage, 14, load, self.image[:14] + self.image[15:])

    def test_things_that_are_no_lines(self):
        for image in (self.image, save(self.store)):
            for at, line in enumerate(image):
                self.wrong(image, at, "", None, " " + line, line + " ", line.replace(" ", "  ", 1) if " " in line else line + "  ",
                           line + "\n", line + "x", "x" + line, line.upper() if line.upper() != line else "END", line.split(), 5)

    def test_the_first_line(self):
        for line in ("store", "store ", "store 8", "store 016", "store +16", "store 16 16", "store -16", "Store 16", "store 16.", "stores 16",
                     "16", "store 0x10", "store 1_6", "store 64", "end"):
            self.wrong(save(self.store), 0, line)
            self.wrong(self.image, 0, line.replace("store", "system"))
        self.fails(BadImage, 1, load, ["system 24"] + save(self.store)[1:])
        self.fails(BadImage, 1, load, ["store 16"] + self.image[1:])

    def test_lists(self):
        self.assertEqual(self.image[1], "lists 3 2 2 1 0")
        for line in ("lists", "lists 3", "lists 3 2", "lists 9 2 2 1 0", "lists 1 0 0", "lists 0 0 0", "lists -1 0 0", "lists 3 3 2 1 0",
                     "lists 3 -1 2 1 0", "lists 3 2 3 1 0", "lists 3 2 2 -1 0", "lists 3 2 2 1 0 0 0 0 0 0 0", "lists 03 2 2 1 0",
                     "lists 3 02 2 1 0", "lists 3 2 2 1 00", "lists +3 2 2 1 0", "lists 3 2 2 1 -0", "lists 3 2 2 1 x", "lists 3,2,2",
                     "list 3 2 2 1 0", "lists 3 2 2 1 0 9"):
            self.wrong(self.image, 1, line)
            self.wrong(self.image, 12, line)
        for line in ("lists 3 2 0", "lists 3 0 2 2 2 2 2 2 2 2", "lists 8 7 7 6 5 4 3 2 1 0"):
            load(self.image[:1] + [line] + self.image[2:])
            load(self.image[:12] + [line] + self.image[13:])
        # Homes hang on the count of the system alone.
        self.fails(BadImage, 16 + 4, load, self.image[:1] + ["lists 2 1 1 0"] + self.image[2:])

    def test_bytes(self):
        self.assertEqual([self.image[at][:5] for at in (2, 3, 13, 25, 26)], ["bytes"] * 5)
        for line in ("bytes", "bytes 0", "bytes 0a0", "bytes 0A00", "bytes 0g00", "bytes 0a 00", "bytes 0a", "bytes " + "00" * 33, "bytes -a00",
                     "byte 0a00", "bytes 0x0a", "bytes " + "00" * 31 + "0"):
            for at in (2, 13, 25):
                self.wrong(self.image, at, line)
        for line in ("bytes", "bytes 0", "bytes 0A", "bytes " + "00" * 33, "bytes 0g"):
            self.wrong(self.image, 3, line)
            self.wrong(self.image, 26, line)
        for at in (3, 13, 26):
            other = load(self.image[:at] + ["bytes " + "11" * (32 if at == 13 else 1)] + self.image[at + 1:])
            self.assertIs(other.__class__, System)
        # A line with fewer bytes is the last one of its kind.
        self.fails(BadImage, 3, load, self.image[:2] + ["bytes 0a00"] + self.image[3:])
        self.fails(BadImage, 4, load, self.image[:4] + self.image[3:])
        self.fails(BadImage, 14, load, self.image[:14] + ["bytes 00"] + self.image[14:])
        # Too few for the cell of the width.
        for width, few, enough in ((16, "0a", "0a00"), (24, "0a00", "0a0000"), (32, "0a0000", "0a000000")):
            self.fails(BadImage, 1, load, [f"store {width}", "bytes " + few, "end"])
            self.fails(BadImage, 1, load, [f"store {width}", "bytes " + few, "?"])
            self.assertEqual(len(load([f"store {width}", "bytes " + enough, "end"]).memory), width // 8)

    def test_too_many_bytes(self):
        full = "bytes " + "00" * 32
        self.assertEqual(len(load(["store 16"] + [full] * 64 + ["end"]).memory), 2048)
        self.fails(BadImage, 65, load, ["store 16"] + [full] * 65 + ["end"])
        self.fails(BadImage, 65, load, ["store 16"] + [full] * 64 + ["bytes 00", "end"])
        marker = ["system 16", "lists 2 1 1 0", "bytes 0a00", "marker =m 1 later", "lists 2 1 1 0"]
        self.assertEqual(len(load(marker + [full] * 64 + ["actions", "end"]).words), FIRST + 1)
        self.fails(BadImage, 5 + 64, load, marker + [full] * 65 + ["actions", "end"])

    def test_plain_words(self):
        image = save(self.store)
        self.assertEqual(image[2], "plain =a -1 later - lit -5 lit 0 data 2048 dup exit")
        body = "lit -5 exit"
        for line in ("plain", "plain =a", "plain =a -1", "plain =a -1 later", "plain =a -1 later -", "plain a -1 later - exit",
                     "plain =" + "a" * 17 + " -1 later - exit", "plain =\t -1 later - exit", "plain =a\x7f -1 later - exit",
                     "plain =a" + chr(37) + " -1 later - exit", "plain =\xe9 -1 later - exit", "plain =a 0 later - exit", "plain =a 1 later - exit",
                     "plain =a -2 later - exit", "plain =a -01 later - exit", "plain =a 01 later - exit", "plain =a - later - exit",
                     "plain =a -1 Later - exit", "plain =a -1 latter - exit", "plain =a -1 1 - exit", "plain =a -1 later 9:0 " + body,
                     "plain =a -1 later " + body, "plain =a -1 later 1:0:0 exit", "plane =a -1 later - exit", "quote - exit",
                     "made =a -1 later 2 -", "marker =a -1 later", "words", "kernel =a -1 later - exit"):
            self.wrong(image, 2, line)
        for line in ("plain = -1 now 8:8 " + body, "plain =" + "=" * 16 + " -1 later - exit"):
            load(image[:2] + [line, "deferred =d -1 later 0:4 -"] + image[4:])

    def test_bodies(self):
        image = save(self.store)
        at = 4
        for body in ("", "dup", "exit dup", "lit exit", "lit", "lit 8388608 exit", "lit -8388609 exit", "lit 05 exit", "lit +5 exit", "lit -0 exit",
                     "lit 5. exit", "lit 0x5 exit", "lit 5 5 exit", "lit \xb2 exit", "data -1 exit", "data 2049 exit", "token 2 exit", "token -1 exit",
                     "token exit", "Dup exit", "dup 0 exit", "locals 0 exit", "locals 9 exit", "dup locals 1 exit", "local 0 exit",
                     "locals 2 local 2 exit", "locals 2 set -1 exit", "goto 1", "goto -1 exit", "unless 2 exit", "unless exit", "call 2 exit",
                     "jump 2", "jump -1", "is 2 exit", "is exit", "exit 0", "run 1 exit", "run 9 0 exit", "run 0 9 exit", "run 1:0 exit",
                     "run -1 0 exit", "run 1 0 0 exit", "catch 9 exit", "catch -1 exit", "catch exit", "deferred exit", "forget exit", "nope exit",
                     "recurse", "lit 1", "run, 1 2 exit", "lit 1" + "0" * 5000 + " exit", "lit - exit", "lit -- exit", "lit 1- exit"):
            self.wrong(image, at, f"plain = -1 later - {body}")
        for body in ("lit 8388607 lit -8388608 exit", "data 0 data 2048 exit", "token 1 exit", "locals 8 local 7 set 0 exit", "goto 0", "unless 1 exit",
                     "call 0 exit", "jump 1", "is 1 exit", "run 8 8 run 0 0 exit", "catch 8 catch 0 exit", "recurse throw perform exit",
                     "word parse [ ] : ; { run, catch, is, to, self, exit"):
            self.assertEqual(save(load(image[:at] + [f"plain = -1 later - {body}"] + image[at + 1:]))[at], f"plain = -1 later - {body}")

    def test_quotes(self):
        at = 4
        self.assertEqual(self.image[at], "quote - @ exit")
        self.wrong(self.image, at, "quote", "quote -", "quote - @", "quote @ exit", "quote 9:1 @ exit", "quote = - @ exit", "quote - 1 @ exit",
                   f"quote - token {FIRST} exit", "quote later - @ exit", "Quote - @ exit")
        load(self.image[:at] + ["quote 1:1 @ exit"] + self.image[at + 1:])

    def test_made_words(self):
        at = 6
        self.assertEqual(self.image[at], f"made =five 1 later 2 {FIRST}")
        for line in ("made", "made =five", "made =five 1 later 2", "made five 1 later 2 -", "made =five 3 later 2 -", "made =five -1 later 2 -",
                     "made =five 1 never 2 -", "made =five 1 later 2049 -", "made =five 1 later -1 -", "made =five 1 later 02 -",
                     f"made =five 1 later 2 {FIRST + 2}", "made =five 1 later 2 -1", "made =five 1 later 2 - -", "made =five 1 later - 2",
                     "made =five 1 later 2 00", "made =five 01 later 2 -", "made =five 1 later 2 - exit"):
            self.wrong(self.image, at, line)
        load(self.image[:at] + [f"made =five 1 later 0 {FIRST + 1}"] + self.image[at + 1:])
        # Other behaviours, also none: what a word takes and leaves is checked anew.
        for behaviour, effect in (("-", (0, 1)), (str(FIRST), (0, 1)), ("0", (0, 2)), (str(KERNEL.index("drop")), (0, 0))):
            system = load(self.image[:at] + [f"made =five 0 now 2048 {behaviour}"] + self.image[at + 1:])
            self.assertEqual((system[FIRST + 2].effect, system[FIRST + 2].address, system[FIRST + 2].home), (effect, 2048, 0))

    def test_deferred_words(self):
        image = save(self.store)
        self.assertEqual(image[3], "deferred =d -1 later 0:4 0")
        for line in ("deferred", "deferred =d", "deferred =d -1 later 2:1", "deferred =d -1 later - -", "deferred =d -1 later 2:9 -",
                     "deferred =d -1 later 2:1 -1", "deferred =d -1 later 2:1 00", "deferred =d -1 later 2:1 01", "deferred =d -1 later 2:1 +0",
                     "deferred =d -1 later 2:1 x", "deferred =d -1 later 2:1 - -", "deferred =d 0 later 2:1 -", "deferred d -1 later 2:1 -",
                     "deferred =d -1 soon 2:1 -", "deferred =d -1 later 2:1 w0", "Deferred =d -1 later 2:1 -"):
            self.wrong(image, 3, line)

    def test_what_the_line_end_looks_at(self):
        image = ["store 16", "bytes 0a00", "deferred =a -1 later 1:1 2", "deferred =b -1 later 2:2 -", "plain = -1 later - lit 1 + exit",
                 "plain = -1 later - dup exit", "plain = -1 later - unless 2 dup exit", "end"]
        store = load(image)
        self.assertEqual([word.action for word in store][:2], [2, None])
        self.assertEqual(load(image[:3] + ["deferred =b -1 later 2:2 0"] + image[4:])[1].action, 0)
        # A word that does not fit, one that is refused, and one that is not there.
        for action in (3, 4, 5, 400, 10 ** 39):
            for at in (2, 3):
                changed = list(image)
                changed[at] = f"deferred =a -1 later 1:1 {action}"
                self.fails(BadImage, 7, load, changed)
                self.fails(BadImage, 7, load, changed + ["x"])
                # A fault ahead of end is told first.
                self.fails(BadImage, 4, load, changed[:4] + ["plain"] + changed[5:])
                self.fails(BadImage, 7, load, changed[:7] + ["END"])
                self.fails(BadImage, 7, load, changed[:7])

    def test_markers(self):
        at = 11
        self.assertEqual(self.image[at:at + 4], ["marker =m 1 later", "lists 2 1 1 0", "bytes 0a000500", f"actions {FIRST + 6}"])
        for line in ("marker", "marker =m", "marker =m 1", "marker m 1 later", "marker =m 3 later", "marker =m 1 later -", "marker =m 1 Later"):
            self.wrong(self.image, at, line)
        for line in ("actions", "actions -1", "actions 00", "actions - -", f"actions {FIRST + 7}", f"actions {FIRST + 8}", "actions 400",
                     f"actions {FIRST}" + "0" * 60, "actions x", "action -", f"actions {FIRST + 3}", f"actions w{FIRST + 6}", "actions =m", "Actions -"):
            self.wrong(self.image, at + 3, line)
        for line, action in (("actions -", None), (f"actions {FIRST + 4}", FIRST + 4), (f"actions {FIRST}", FIRST), ("actions 20", 20)):
            system = load(self.image[:at + 3] + [line] + self.image[at + 4:])
            self.assertEqual(system[FIRST + 7].keeps[4], (action,))
        load(self.image[:at] + ["marker = 0 now"] + self.image[at + 1:])

    def test_kept_actions_of_several_words(self):
        at = len(self.image) - 2
        self.assertEqual(self.image[at], f"actions {FIRST + 6} - {FIRST + 13}")
        for line in ("actions", f"actions {FIRST + 6} -", f"actions {FIRST + 6} - {FIRST + 13} -", f"actions {FIRST + 13} - {FIRST + 13}",
                     f"actions {FIRST + 6} {FIRST + 6} -", f"actions {FIRST + 6} - {FIRST + 16}"):
            self.wrong(self.image, at, line)
        load(self.image[:at] + [f"actions - - {FIRST + 12}"] + self.image[at + 1:])

    def test_lines_at_random(self):
        luck = random.Random(82)
        signs = "0123456789-=:+ abcdefx\"[];,"
        for image in (self.image, save(self.store)):
            loads = 0
            for _ in range(1500):
                lines = list(image)
                for _ in range(luck.choice((1, 1, 2))):
                    at = luck.randrange(len(lines))
                    line = lines[at]
                    place = luck.randint(0, len(line))
                    lot = luck.random()
                    if lot < 0.4:
                        lines[at] = line[:place] + luck.choice(signs) + line[place:]
                    elif lot < 0.8:
                        lines[at] = line[:place] + line[place + 1:]
                    elif lot < 0.9:
                        lines[at] = luck.choice(image)
                    else:
                        words = line.split(" ")
                        luck.shuffle(words)
                        lines[at] = " ".join(words)
                try:
                    store = load(lines)
                except BadImage:
                    continue
                loads += 1
                self.assertEqual(save(store), lines)
            self.assertGreater(loads, 20)


if __name__ == "__main__":
    import unittest
    unittest.main()
