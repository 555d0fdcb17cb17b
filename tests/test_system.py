"""Systems: the kernel words, names, copies and comparison."""

from tests.helpers import Case, ops
from wordmint.errors import BadBody, BadEffect, BadName, BadWidth, NoWord, TooMany, Unfit, Unknown
from wordmint.forms import EFFECTS
from wordmint.machine import Machine
from wordmint.memory import Memory
from wordmint.reading import Source
from wordmint.stores import Store
from wordmint.system import KERNEL, Definition, System

WORDS = """dup drop swap over rot >r r> r@ + - * / mod and or xor invert = < u< 0= @ ! c@ c! here allot , c, cell . emit
type ask exit throw perform base word parse pad@ pad, lookup ' compile literal address local, state [ ] : ; [: ;] recurse
run catch is to { postpone immediate create behave defer marker <mark <goto <unless goto> unless> >land new-list also
previous into""".split()
IMMEDIATE = "[ ; [: ;] recurse run catch is to { postpone".split()
OTHER_OPS = {"base": "data", "recurse": "self,", "run": "run,", "catch": "catch,", "is": "is,", "to": "to,"}
# Words that are refused when they stand alone in a word, and what they are refused for.
REFUSED = {"r>": "own", "r@": "own", ">r": "left", "perform": "free"}


class Kernel(Case):
    def test_names_and_numbers(self):
        self.assertEqual(KERNEL, tuple(WORDS))
        system = System(16)
        self.assertEqual(len(system), len(WORDS))
        self.assertEqual([word.name for word in system], WORDS)
        for number, name in enumerate(WORDS):
            self.assertEqual((system.find(name), system.number_of(name)), (number, number))

    def test_bodies_and_marks(self):
        for word in System(24):
            op = OTHER_OPS.get(word.name, word.name)
            self.assertEqual(word.plain(), (word.name, 0, "kernel", word.name in IMMEDIATE, ((op, 0), ("exit", 0)),
                                            None, None, None, None, None))

    def test_effects(self):
        for word in System(32):
            op = word.body[0][0]
            if word.name in REFUSED:
                self.assertEqual((word.effect, word.verdict.kind), (None, REFUSED[word.name]), word.name)
            else:
                self.assertEqual(word.effect, EFFECTS[op], word.name)
                self.assertEqual(word.verdict.row, (0,) if op == "throw" else (), word.name)
                self.assertEqual(word.verdict.frames, 1, word.name)
                self.assertEqual(word.verdict.rise, max(0, EFFECTS[op][1] - EFFECTS[op][0]), word.name)

    def test_widths(self):
        for width in (0, 8, True, None, "16", 64):
            self.fails(BadWidth, width, System, width)
        for width in (16, 24, 32):
            system = System(width)
            self.assertEqual((system.width, system.memory), (width, Memory(width)))

    def test_at_the_beginning(self):
        system = System(16)
        self.assertIsInstance(system, Store)
        self.assertEqual((system.lists.count, system.lists.order, system.lists.into), (2, (1, 0), 1))
        self.assertEqual((system.opened, system.compiling, system.caught), ([], False, ""))
        self.assertIs(system.compiling, False)
        self.assertEqual((system.source.text(), system.source.where()), ((), (0, 0)))


class Names(Case):
    def system(self):
        system = System(16)
        system.define(ops("lit#1 exit"), name="dup")
        system.define(ops("lit#2 exit"), name="one")
        system.define(ops("lit#3 exit"), name="one")
        system.define(ops("lit#4 exit"))
        return system

    def test_new_words_come_into_their_list(self):
        system = self.system()
        first = len(KERNEL)
        self.assertEqual([word.home for word in system.words[first:]], [1, 1, 1, 1])
        system.lists.begin(system.lists.new())
        self.assertEqual(system.define(ops("exit"), name="two"), first + 4)
        self.assertEqual(system.defer((1, 1), name="three", action=None), first + 5)
        self.assertEqual([word.home for word in system.words[first:]], [1, 1, 1, 1, 2, 2])
        self.assertEqual((system.find("two"), system.find("three")), (None, None))
        system.lists.also(2)
        self.assertEqual((system.find("two"), system.find("three")), (first + 4, first + 5))

    def test_find_and_number_of(self):
        system = self.system()
        first = len(KERNEL)
        self.assertEqual((system.find("dup"), system.find("one")), (first, first + 2))
        self.assertEqual((system.number_of("dup"), system.number_of("one")), (first, first + 2))
        system.lists.also(0)
        self.assertEqual((system.find("dup"), system.find("one")), (0, first + 2))
        system.lists.previous()
        system.lists.previous()
        self.assertEqual((system.find("dup"), system.find("one")), (0, None))
        for name in ("one", "", "nothing", None, 0):
            self.assertIsNone(system.find(name))
            self.fails(Unknown, name, system.number_of, name)

    def test_define(self):
        system = System(16)
        number = system.define(ops("dup * exit"), name="sq", declared=(1, 1), immediate=True)
        self.assertEqual(system[number].plain(), ("sq", 1, "plain", True, ops("dup * exit"), (1, 1), None, None, None,
                                                  None))
        self.assertEqual(system[number].effect, (1, 1))
        self.fails(BadName, "a b", system.define, None, name="a b", declared=9)
        self.fails(BadEffect, 9, system.define, None, declared=9)
        self.fails(BadBody, 0, system.define, None)
        self.fails(BadBody, 0, system.define, (("token", number + 1), ("exit", 0)))
        self.assertEqual(len(system), number + 1)

    def test_defer(self):
        system = System(16)
        number = system.defer((1, 2), name="later", action=0)
        self.assertEqual(system[number].plain(), ("later", 1, "deferred", False, (("deferred", 0), ("exit", 0)),
                                                  (1, 2), None, None, 0, None))
        self.fails(BadName, "a" * 17, system.defer, None, name="a" * 17)
        self.fails(BadEffect, None, system.defer, None)
        self.fails(NoWord, 500, system.defer, (1, 1), action=500)
        self.fails(Unfit, 0, system.defer, (1, 1), action=0)
        system.act(number, None)
        self.assertIsNone(system[number].action)

    def test_too_many_words(self):
        system = System(16)
        while len(system) < 400:
            system.define(ops("exit"))
        self.fails(TooMany, 400, system.define, None)
        self.fails(TooMany, 400, system.defer, None)
        self.assertEqual(len(system), 400)

    def test_changed_is_a_system(self):
        system = self.system()
        number = system.number_of("one")
        other = system.changed(number, ops("lit#7 exit"))
        self.assertIsInstance(other, System)
        self.assertEqual((other[number].body, other[number].home), (ops("lit#7 exit"), 1))
        self.assertEqual(system[number].body, ops("lit#3 exit"))
        self.assertEqual(other.lists, system.lists)
        self.assertFalse(other == system)


class Copies(Case):
    def test_a_copy_is_equal_and_goes_its_own_way(self):
        system = System(16)
        system.define(ops("exit"), name="a")
        definition = Definition("b", (1, 1))
        definition.rows.append(("goto", -1))
        definition.gaps.append(0)
        definition.marks.append(0)
        definition.names.append("x")
        system.opened.append(definition)
        system.compiling = True
        system.source = Source(["a b c"])
        system.source.word()
        system.caught = "a"
        other = system.copy()
        self.assertEqual(system, other)
        self.assertIsInstance(other, System)
        self.assertEqual((other.caught, other.source.where(), other.source.text()), ("a", (0, 2), ("a b c",)))
        other.source.word()
        other.caught = "b"
        other.lists.new()
        other.memory.add_byte(1)
        other.opened[0].rows.append(("dup", 0))
        other.opened[0].names.append("y")
        other.opened[0].marks.append(1)
        other.opened[0].gaps.append(2)
        other.words.pop()
        other.opened.append(Definition("", None))
        self.assertEqual((system.source.where(), system.caught, system.lists.count), ((0, 2), "a", 2))
        self.assertEqual((len(system.memory), len(system.words), len(system.opened)), (2, len(KERNEL) + 1, 1))
        self.assertEqual((definition.rows, definition.names, definition.marks, definition.gaps),
                         ([("goto", -1)], ["x"], [0], [0]))

    def test_what_makes_systems_unlike(self):
        def open_one(system):
            system.opened.append(Definition("", None))

        def compile_now(system):
            system.compiling = True

        changes = (lambda system: system.lists.new(), lambda system: system.lists.begin(0),
                   lambda system: system.memory.add_byte(0), lambda system: system.define(ops("exit")), open_one,
                   compile_now, lambda system: system.memory.put(0, 16))
        for change in changes:
            system = System(16)
            change(system)
            self.assertFalse(system == System(16))
            self.assertEqual(system, system.copy())
        self.assertFalse(System(16) == System(24))

    def test_unlike_open_definitions(self):
        def with_one(change):
            system = System(16)
            definition = Definition("a", None)
            change(definition)
            system.opened.append(definition)
            return system

        systems = [with_one(change) for change in (
            lambda one: None, lambda one: one.rows.append(("dup", 0)), lambda one: one.names.append("x"),
            lambda one: one.marks.append(0), lambda one: one.gaps.append(0), lambda one: setattr(one, "name", "b"),
            lambda one: setattr(one, "declared", (0, 0)))]
        for at, one in enumerate(systems):
            for place, other in enumerate(systems):
                self.assertEqual(one == other, at == place)

    def test_source_and_caught_do_not_count(self):
        system = System(16)
        system.source = Source(["a"])
        system.caught = "a"
        self.assertEqual(system, System(16))

    def test_a_system_and_a_store(self):
        system = System(16)
        store = Store(16)
        store.words = list(system.words)
        self.assertFalse(system == store)
        self.assertFalse(system == "system")

    def test_definition(self):
        definition = Definition("a", (1, 2))
        self.assertEqual((definition.name, definition.declared), ("a", (1, 2)))
        self.assertEqual([definition.rows, definition.names, definition.marks, definition.gaps], [[], [], [], []])

    def test_a_machine_copies_the_system(self):
        system = System(16)
        machine = Machine(system, 0, stack=(1,))
        other = machine.copy()
        self.assertIsInstance(other.store, System)
        self.assertEqual(other.store, system)
        self.assertIsNot(other.store, system)
