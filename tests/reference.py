"""A second checker, written slowly and straight from the points [13] and [14], and bodies at random to try it on.

It keeps rows as tuples, ways as whole paths, and looks for the least way by sorting; so it shares no code and no
trick with the package.
"""

import random

from wordmint.effects import Refusal, Summary
from wordmint.forms import EFFECTS
from wordmint.stores import Store

PLAIN_OPS = "dup drop swap over rot >r r> r@ + - 0= here ask throw recurse @ locals".split()


def key(row):
    """The order of rows."""
    return (len(row), row)


def effect_of(words, declared, op, arg):
    if op in EFFECTS:
        return EFFECTS[op]
    if op == "locals":
        return (arg, 0)
    if op in ("call", "jump"):
        verdict = words[arg].verdict
        return (verdict.ins, verdict.outs) if isinstance(verdict, Summary) else None
    if op == "recurse":
        return declared
    if op == "run":
        return (arg[0] + 1, arg[1])
    if op == "catch":
        return (arg + 1, arg + 1)
    return None


def row_of(words, number):
    verdict = words[number].verdict
    return verdict.row if isinstance(verdict, Summary) else None


def next_ways(words, body, place, row, own):
    """(row, place) for each way on; the place of a jump that returns is ('out', its place)."""
    op, arg = body[place]
    if op == "exit":
        return []
    if op == "goto":
        return [(row, arg)]
    if op == "unless":
        return [(row + (0,), arg), (row + (1,), place + 1)]
    if op == "throw":
        return [(row + (0,), place + 1)]
    if op in ("call", "jump", "recurse"):
        more = own if op == "recurse" else row_of(words, arg)
        if more is None:
            return []
        return [(row + more, ("out", place) if op == "jump" else place + 1)]
    return [(row, place + 1)]


def least_row(words, body):
    """The least row to an exit, without regard to refusals, or None."""
    ways = [((), 0, 0)]
    seen = []
    while ways:
        ways.sort(key=lambda way: (key(way[0]), way[1]))
        row, steps, place = ways.pop(0)
        if isinstance(place, tuple) or body[place][0] == "exit":
            return row
        if place not in seen:
            seen.append(place)
            for more, where in next_ways(words, body, place, row, None):
                if len(more) <= 1000:
                    ways.append((more, steps + 1, where))
    return None


class Check:
    """One check: its verdict, and the standings ahead of it."""

    def __init__(self, words, body, declared):
        self.words = words
        self.body = body
        self.declared = declared
        self.own = least_row(words, body)
        self.firsts = {}
        self.exit = None
        self.verdict = self.walk()

    def takes(self, place):
        return effect_of(self.words, self.declared, *self.body[place])[0]

    def need(self, *ways):
        """ways are pairs of a path and the (place, depth) at its end, or None behind a jump."""
        if self.declared is not None:
            return self.declared[0]
        most = 0
        for path, last in ways:
            for place, depth in path:
                most = max(most, self.takes(place) - depth)
            if last is not None:
                op, arg = self.body[last[0]]
                if op == "jump" and effect_of(self.words, None, op, arg) is not None:
                    most = max(most, self.takes(last[0]) - last[1])
        return most

    def met(self, place, depth, held, first):
        """All refusals that are met at a place, as (number, kind)."""
        op, arg = self.body[place]
        effect = effect_of(self.words, self.declared, op, arg)
        told = []
        if op == "recurse" and self.declared is None:
            told.append((1, "unsaid"))
        if op in ("perform", "forget"):
            told.append((2, "free"))
        if op in ("call", "jump") and effect is None:
            told.append((3, "callee"))
        if effect is not None and self.declared is not None and depth - effect[0] < -self.declared[0]:
            told.append((4, "under"))
        if op in ("r>", "r@") and held == 0:
            told.append((5, "own"))
        if op in ("exit", "jump") and held > 0:
            told.append((6, "left"))
        if op == "exit" and self.declared is not None and depth != self.declared[1] - self.declared[0]:
            told.append((7, "out"))
        if first is not None and first[1:3] != (depth, held):
            told.append((8, "ragged"))
        elif op == "exit" and self.declared is None and self.exit is not None and self.exit[1] != depth:
            told.append((8, "exits"))
        return told

    def behind_jump(self, place, row, depth, path):
        if self.declared is not None:
            if depth != self.declared[1] - self.declared[0]:
                return Refusal("out", place, row, None, None, self.declared[0])
        elif self.exit is not None and self.exit[1] != depth:
            return Refusal("ragged", place, row, self.exit[0], None, self.need((path, None), (self.exit[2], None)))
        if self.exit is None:
            self.exit = (row, depth, path)
        return None

    def refusal(self, kind, place, row, depth, path, first):
        op, arg = self.body[place]
        last = (place, depth)
        if kind == "ragged":
            need = self.need((path, last), (first[3], (place, first[1])))
            return Refusal("ragged", place, row, first[0], None, need)
        if kind == "exits":
            return Refusal("ragged", place, row, self.exit[0], None, self.need((path, last), (self.exit[2], None)))
        return Refusal(kind, place, row, None, arg if kind == "callee" else None, self.need((path, last)))

    def walk(self):
        ways = [((), 0, 0, 0, 0, ())]
        while ways:
            ways.sort(key=lambda way: (key(way[0]), way[1]))
            row, steps, place, depth, held, path = ways.pop(0)
            if isinstance(place, tuple):
                refusal = self.behind_jump(place[1], row, depth, path)
                if refusal is not None:
                    return refusal
                continue
            first = self.firsts.get(place)
            told = self.met(place, depth, held, first)
            op, arg = self.body[place]
            effect = effect_of(self.words, self.declared, op, arg)
            onward = [] if effect is None else next_ways(self.words, self.body, place, row, self.own)
            if first is None and effect is not None:
                if effect[0] - depth > 200 or max([len(more) for more, where in onward] + [0]) > 1000:
                    told.append((9, "long"))
            if told:
                return self.refusal(min(told)[1], place, row, depth, path, first)
            if first is not None:
                continue
            self.firsts[place] = (row, depth, held, path)
            if op == "exit" and self.exit is None:
                self.exit = (row, depth, path)
            for more, where in onward:
                ways.append((more, steps + 1, where, depth - effect[0] + effect[1],
                             held + (op == ">r") - (op == "r>"), path + ((place, depth),)))
        return self.summary()

    def summary(self):
        ins = max([self.takes(place) - first[1] for place, first in self.firsts.items()] + [0])
        outs = ins if self.exit is None else ins + self.exit[1]
        if self.declared is not None:
            ins, outs = self.declared
        rises = [0]
        frames = [1]
        for place, first in self.firsts.items():
            op, arg = self.body[place]
            rises.append(first[1])
            if op in ("recurse", "run", "catch"):
                rises.append(None)
            if op in ("call", "jump"):
                verdict = self.words[arg].verdict
                rises.append(None if verdict.rise is None else first[1] + verdict.rise)
                frames.append(0 if verdict.frames is None else verdict.frames + (op == "call"))
        if None in rises:
            return Summary(ins, outs, None, None, self.own)
        return Summary(ins, outs, max(rises), max(frames), self.own)

    def standings(self):
        return [(place, first[1], first[2], first[0]) for place, first in sorted(self.firsts.items())]


def some_instruction(luck, length, number):
    lot = luck.random()
    if lot < 0.25:
        return ("lit", luck.choice((0, 1)))
    if lot < 0.42:
        return ("unless", luck.randrange(length))
    if lot < 0.47:
        return ("goto", luck.randrange(length))
    if lot < 0.6 and number > 0:
        return (luck.choice(("call", "call", "call", "token", "jump")), luck.randrange(number))
    if lot < 0.65:
        return luck.choice((("exit", 0), ("run", (0, 1)), ("catch", 0), ("perform", 0)))
    op = luck.choice(PLAIN_OPS)
    return ("dup", 0) if op == "locals" else (op, 0)


def some_body(luck, number):
    """A body for the word with this number."""
    length = luck.randint(1, 10)
    body = [some_instruction(luck, length, number) for _ in range(length - 1)]
    if length > 3 and luck.random() < 0.15:
        body[:2] = [("locals", 1), luck.choice((("local", 0), ("set", 0)))]
    last = luck.choice((("exit", 0), ("exit", 0), ("exit", 0), ("goto", luck.randrange(length))))
    if number > 0 and luck.random() < 0.1:
        last = ("jump", luck.randrange(number))
    return tuple(body + [last])


def some_store(luck):
    """A store of words at random, deferred ones among them."""
    store = Store(16)
    for _ in range(luck.randint(1, 5)):
        effect = (luck.randint(0, 2), luck.randint(0, 2))
        if luck.random() < 0.1:
            store.defer(effect)
        else:
            store.define(some_body(luck, len(store)), declared=luck.choice((None, effect)))
    return store


def stores(seed, count):
    """So many stores, the same ones for the same seed."""
    luck = random.Random(seed)
    return [some_store(luck) for _ in range(count)]
