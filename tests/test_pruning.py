"""Pruning: what is reached, the ways, pruned stores, and runs in them."""

import random

from tests import drawn, reference
from tests.helpers import Case, ops, store_of
from wordmint.errors import BadItem, NoWord, StillOpen
from wordmint.machine import Machine
from wordmint.makers import full_actions
from wordmint.pruning import distances, pruned, reached, renumbered, way
from wordmint.saving import load, save
from wordmint.session import Session
from wordmint.stores import Store
from wordmint.system import KERNEL, System

FIRST = len(KERNEL)


def system_of(*lines):
    session = Session(16)
    outcome = session.read(list(lines))
    assert outcome, (outcome.kind, outcome.number, outcome.line, outcome.column)
    return session.system


def plain_neighbours(words, number):
    word = words[number]
    told = {arg for op, arg in word.body if op in ("token", "call", "jump", "is")}
    return told | ({word.action} - {None})


def plain_reached(words, roots):
    """All that is reached, by looking at everything again and again."""
    found = set(roots) | {number for number, word in enumerate(words) if word.kind == "kernel"}
    while True:
        more = set(found)
        for number in found:
            more |= plain_neighbours(words, number)
            if words[number].kind == "marker":
                ahead = [at for at, word in enumerate(words[:number]) if word.kind == "deferred"]
                for at, action in zip(ahead, words[number].keeps[4]):
                    if at in found and action is not None:
                        more.add(action)
        if more == found:
            return tuple(sorted(found))
        found = more


def plain_way(words, root, number):
    """The first of the shortest ways, by looking at all ways of each length."""
    ways = [(root,)]
    for _ in range(len(words) + 1):
        ends = [each for each in ways if each[-1] == number]
        if ends:
            return min(ends)
        ways = sorted({each[-1]: each for each in sorted([each + (other,) for each in ways
                                                          for other in plain_neighbours(words, each[-1])], reverse=True)}.values())
    return None


class Reached(Case):
    def test_errors(self):
        store = store_of("exit", "call#0 exit")
        self.fails(NoWord, 2, reached, store, [0, 2, -1])
        self.fails(NoWord, -1, reached, store, [-1, 2])
        for thing in (True, None, "0", (0,)):
            self.fails(NoWord, thing, reached, store, [1, thing])

    def test_each_kind_of_reference(self):
        store = store_of("exit")
        store.defer((0, 0))
        for text, told in (("call#0 exit", (0, 2)), ("jump#0", (0, 2)), ("token#0 drop exit", (0, 2)), ("token#0 is#1 exit", (0, 1, 2)),
                           ("goto#2 call#0 exit", (0, 2)), ("lit#0 data#1 drop drop exit", (2,)), ("recurse exit", (2,)), ("exit", (2,))):
            other = store.copy()
            other.define(ops(text), declared=(0, 0))
            self.assertEqual(reached(other, [2]), told, text)
            self.assertEqual(reached(other, [2, 2, 0]), tuple(sorted({*told, 0})), text)

    def test_roots(self):
        store = store_of("exit", "call#0 exit", "exit")
        self.assertEqual(reached(store, []), ())
        self.assertEqual(reached(store, [2]), (2,))
        self.assertEqual(reached(store, (2, 1)), (0, 1, 2))
        self.assertEqual(reached(System(16), []), tuple(range(FIRST)))

    def test_actions(self):
        store = store_of("exit", "exit")
        store.defer((0, 0), action=0)
        store.define(ops("call#2 exit"))
        self.assertEqual(reached(store, [3]), (0, 2, 3))
        store.act(2, 1)
        self.assertEqual(reached(store, [3]), (1, 2, 3))
        store.act(2, 3)
        self.assertEqual(reached(store, [2]), (2, 3))
        self.assertEqual(reached(store, [3]), (2, 3))
        store.act(2, None)
        self.assertEqual(reached(store, [3]), (2, 3))
        # A younger word, and itself.
        store.act(2, 2)
        self.assertEqual(reached(store, [2]), (2,))

    def test_behaviours(self):
        system = system_of(": b @ ; create x ' b behave create y ' @ behave create z")
        number = system.number_of("x")
        self.assertEqual(reached(system, [number])[FIRST:], (number - 1, number))
        self.assertEqual(reached(system, [number + 1])[FIRST:], (number + 1,))
        self.assertEqual(reached(system, [number + 2])[FIRST:], (number + 2,))

    def test_markers(self):
        system = system_of(": a ; : b ; defer d 0 0 defer e 0 0 : sd is d ; : se is e ; ' a sd ' b se marker m")
        system.act(system.number_of("d"), None)
        a, b, d, e, m = [system.number_of(name) for name in "abdem"]
        self.assertEqual(reached(system, [m])[FIRST:], (m,))
        self.assertEqual(reached(system, [m, d])[FIRST:], (a, d, m))
        self.assertEqual(reached(system, [m, e])[FIRST:], (b, e, m))
        self.assertEqual(reached(system, [d])[FIRST:], (d,))
        self.assertEqual(reached(system, [m, d, e])[FIRST:], (a, b, d, e, m))

    def test_what_a_marker_keeps_reaches_deferred_words_of_which_it_keeps_more(self):
        system = system_of(": a ; defer d 0 0 : calls-d d ; defer e 0 0 : calls-e e ; defer f 0 0 : sd is d ; : se is e ; : sf is f ;",
                           "' calls-e sf ' calls-d se ' a sd marker m")
        names = {name: system.number_of(name) for name in "a d e f m calls-d calls-e".split()}
        for name in "def":
            system.act(names[name], None)
        self.assertEqual(reached(system, [names["m"]])[FIRST:], (names["m"],))
        self.assertEqual(reached(system, [names["m"], names["f"]])[FIRST:], tuple(sorted(names.values())))

    def test_drawn(self):
        luck = random.Random(91)
        for turn in range(40):
            store = drawn.drawn_store(luck) if turn % 3 else reference.some_store(luck)
            for number, word in enumerate(store):
                if word.kind == "deferred" and luck.random() < 0.5:
                    fits = [at for at, other in enumerate(store) if other.effect == word.declared]
                    store.act(number, luck.choice(fits))
            for _ in range(4):
                roots = [luck.randrange(len(store)) for _ in range(luck.randint(0, 2))]
                self.assertEqual(reached(store, roots), plain_reached(store.words, roots))
                one, two = luck.randrange(len(store)), luck.randrange(len(store))
                self.assertEqual(way(store, one, two), plain_way(store.words, one, two))


class Ways(Case):
    def test_errors(self):
        store = store_of("exit", "call#0 exit")
        self.fails(NoWord, 2, way, store, 2, 3)
        self.fails(NoWord, 3, way, store, 1, 3)
        self.fails(NoWord, True, way, store, True, None)
        self.fails(NoWord, None, way, store, 0, None)

    def test_ways(self):
        store = store_of("exit", "call#0 exit", "call#0 exit", "call#2 call#1 exit", "token#3 drop call#0 exit", "exit")
        self.assertEqual(way(store, 3, 0), (3, 1, 0))
        self.assertEqual(way(store, 4, 0), (4, 0))
        self.assertEqual(way(store, 4, 1), (4, 3, 1))
        self.assertEqual(way(store, 4, 4), (4,))
        self.assertEqual(way(store, 5, 5), (5,))
        self.assertIsNone(way(store, 0, 4))
        self.assertIsNone(way(store, 5, 0))
        self.assertIsNone(way(store, 4, 5))

    def test_through_actions_but_not_through_markers(self):
        system = system_of(": a ; defer d 0 0 : sd is d ; ' a sd : user d ; marker m")
        a, d, user, m = [system.number_of(name) for name in ("a", "d", "user", "m")]
        self.assertEqual(way(system, user, a), (user, d, a))
        self.assertIsNone(way(system, m, a))
        self.assertEqual(way(system, m, m), (m,))
        system.act(d, user)
        self.assertEqual((way(system, d, user), way(system, d, d), way(system, user, a)), ((d, user), (d,), None))
        self.assertIsNone(way(system, user, 0))

    def test_many_ways_of_one_length(self):
        store = store_of("exit")
        for _ in range(6):
            first = len(store) - 1
            for _ in range(3):
                store.define(ops(f"call#{first} exit"))
            store.define(ops(f"call#{len(store) - 1} call#{len(store) - 2} call#{len(store) - 3} exit"))
        last = len(store) - 1
        told = way(store, last, 0)
        # Of the three words between two others the oldest one is taken.
        self.assertEqual(told, (24, 21, 20, 17, 16, 13, 12, 9, 8, 5, 4, 1, 0))
        self.assertEqual(told, plain_way(store.words, last, 0))

    def test_distances(self):
        store = store_of("exit", "call#0 exit", "call#0 exit", "call#2 call#1 exit", "token#3 drop call#0 exit", "exit")
        self.assertEqual(distances(store.words, 0), {0: 0, 1: 1, 2: 1, 4: 1, 3: 2})
        self.assertEqual(distances(store.words, 3), {3: 0, 4: 1})
        luck = random.Random(92)
        for _ in range(20):
            words = drawn.drawn_store(luck).words
            for goal in range(len(words)):
                ways = [plain_way(words, number, goal) for number in range(len(words))]
                wanted = {number: len(told) - 1 for number, told in enumerate(ways) if told is not None}
                self.assertEqual(distances(words, goal), wanted)

    def test_long_chains(self):
        store = store_of("exit")
        for number in range(399):
            store.define(ops(f"call#{number} exit"))
        self.assertEqual(way(store, 399, 0), tuple(range(399, -1, -1)))
        self.assertEqual(reached(store, [399]), tuple(range(400)))


class Pruned(Case):
    def test_errors(self):
        system = system_of(": x 1", "[: 2")
        self.fails(NoWord, 400, pruned, system, [0, 400])
        self.fails(StillOpen, "x", pruned, system, [0])
        self.fails(StillOpen, "x", pruned, system, [])
        self.fails(NoWord, True, pruned, store_of("exit"), [True])

    def test_words_and_numbers(self):
        store = store_of("exit", "lit#1 exit", "call#1 drop exit", "lit#5 exit", "token#3 call#2 is#0 exit")
        store.defer((0, 1), name="d", action=3)
        store.define(ops("call#2 call#5 jump#3"), name="top", declared=(0, 2), immediate=True)
        store.memory.add_cell(7)
        copy = store.copy()
        fresh, numbers = pruned(store, [6])
        self.assertEqual(numbers, (1, 2, 3, 5, 6))
        self.assertEqual([word.body for word in fresh],
                         [ops("lit#1 exit"), ops("call#0 drop exit"), ops("lit#5 exit"), (("deferred", 0), ("exit", 0)), ops("call#1 call#3 jump#2")])
        self.assertEqual(fresh[3].plain(), ("d", -1, "deferred", False, (("deferred", 0), ("exit", 0)), (0, 1), None, None, 2, None))
        self.assertEqual(fresh[4].plain()[:6], ("top", -1, "plain", True, ops("call#1 call#3 jump#2"), (0, 2)))
        self.assertEqual(fresh.memory, store.memory)
        self.assertEqual(store, copy)
        fresh.memory.add_byte(1)
        self.assertEqual(store, copy)

    def test_all_and_none(self):
        store = drawn.drawn_store(random.Random(92))
        fresh, numbers = pruned(store, list(range(len(store))))
        self.assertEqual((fresh, numbers), (store, tuple(range(len(store)))))
        self.assertIsNot(fresh, store)
        fresh, numbers = pruned(store, [])
        self.assertEqual((len(fresh), numbers, fresh.memory), (0, (), store.memory))
        system = system_of(": x ;")
        fresh, numbers = pruned(system, [])
        self.assertEqual(([word.plain() for word in fresh], numbers), ([word.plain() for word in System(16)], tuple(range(FIRST))))

    def test_verdicts(self):
        luck = random.Random(93)
        kinds = set()
        for turn in range(40):
            store = drawn.drawn_store(luck) if turn % 3 else reference.some_store(luck)
            fresh, numbers = pruned(store, [luck.randrange(len(store))])
            again = load(save(fresh))
            self.assertEqual([word.verdict for word in fresh], [word.verdict for word in again])
            self.assertEqual([word.effect for word in fresh], [store[number].effect for number in numbers])
            kinds |= {getattr(word.verdict, "kind", None) for word in fresh}
        store = store_of("exit", "unless#2 lit#1 exit", "exit", "call#1 exit")
        fresh, numbers = pruned(store, [3])
        self.assertEqual((numbers, fresh[1].verdict.kind, fresh[1].verdict.number), ((1, 3), "callee", 0))
        self.assertIn(None, kinds)

    def test_a_system(self):
        system = system_of(": junk ; : constant create , [: @ ;] behave ; 5 constant five new-list dup also into : a five ;",
                           "defer d 0 1 defer gone 0 1 : sd is d ; : sg is gone ; ' five sd ' five sg marker m : b a d ; immediate")
        a, b, d, m = [system.number_of(name) for name in "abdm"]
        five = system.number_of("five")
        quote = five - 2
        fresh, numbers = pruned(system, [b, m])
        self.assertEqual(numbers[FIRST:], (quote, five, a, d, m, b))
        self.assertEqual([(word.kind, word.name, word.home) for word in list(fresh)[FIRST:]],
                         [("quote", "", -1), ("made", "five", 1), ("plain", "a", 2), ("deferred", "d", 2), ("marker", "m", 2), ("plain", "b", 2)])
        self.assertEqual((fresh[FIRST + 1].behaviour, fresh[FIRST + 1].address, fresh[FIRST + 1].body),
                         (FIRST, 2, (("data", 2), ("call", FIRST), ("exit", 0))))
        self.assertEqual(fresh[FIRST + 3].action, FIRST + 1)
        self.assertEqual(fresh[FIRST + 4].keeps, (3, (2, 1, 0), 2, (10, 0, 5, 0), (FIRST + 1,)))
        self.assertEqual((fresh.lists, fresh.memory, fresh.caught, fresh.source.text(), fresh.compiling),
                         (system.lists, system.memory, system.caught, system.source.text(), False))
        self.assertIs(fresh.__class__, System)
        self.assertEqual(load(save(fresh)), fresh)

    def test_kept_actions_of_words_that_stay(self):
        system = system_of(": a ; defer d 0 0 defer e 0 0 defer f 0 0 : se is e ; : sf is f ; ' a se ' a sf marker m")
        a, e, m = [system.number_of(name) for name in "aem"]
        fresh, numbers = pruned(system, [m])
        self.assertEqual((numbers[FIRST:], fresh[FIRST].keeps[4]), ((m,), ()))
        fresh, numbers = pruned(system, [m, e, system.number_of("d")])
        self.assertEqual(fresh[len(fresh) - 1].keeps[4], (None, FIRST))
        system.act(e, None)
        fresh, numbers = pruned(system, [m, e])
        self.assertEqual((numbers[FIRST:], fresh[FIRST + 2].keeps[4], fresh[FIRST + 1].action), ((a, e, m), (FIRST,), None))
        machine = Machine(fresh, FIRST + 2, actions=full_actions())
        self.assertEqual((machine.go(9), len(machine.store), machine.store[FIRST + 1].action), ("done", FIRST + 2, FIRST))


class Renumbered(Case):
    def test_items(self):
        self.assertEqual(renumbered((1, (5,), -7, (9,), (5,)), (2, 5, 9)), (1, (1,), -7, (2,), (1,)))
        self.assertEqual(renumbered([], ()), ())
        self.assertEqual(renumbered([3, (0,)], (0,)), (3, (0,)))
        self.fails(BadItem, (4,), renumbered, [1, (5,), (4,), (3,)], (2, 5, 9))
        self.fails(BadItem, (0,), renumbered, ((0,),), ())


class Runs(Case):
    def test_runs_in_pruned_stores(self):
        luck = random.Random(94)
        kinds = {}
        for turn in range(200):
            store = drawn.drawn_store(luck, luck.choice((16, 24, 32))) if turn % 3 else reference.some_store(luck)
            root = luck.randrange(len(store))
            fresh, numbers = pruned(store, [root])
            for number in numbers:
                items = [luck.choice((0, 1, 1, 2, 2, 3, -1, 65, (luck.choice(numbers),))) for _ in range(luck.randint(2, 8))]
                feed = [luck.choice((0, 1)) for _ in range(4)]
                one = Machine(store.copy(), number, stack=items, feed=feed)
                two = Machine(fresh.copy(), numbers.index(number), stack=renumbered(items, numbers), feed=feed)
                one.go(500)
                two.go(500)
                self.assertEqual((one.kind, one.number, one.output, one.feed, one.steps), (two.kind, two.number, two.output, two.feed, two.steps))
                self.assertEqual(renumbered(one.stack, numbers), two.stack)
                self.assertEqual(pruned(one.store, numbers)[0], two.store)
                kinds[one.kind] = kinds.get(one.kind, 0) + 1
        for kind in ("done", "error", "asks"):
            self.assertGreater(kinds[kind], 10, kinds)


if __name__ == "__main__":
    import unittest
    unittest.main()
