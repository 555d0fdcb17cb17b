"""Stores at random whose words are mostly let by: bodies of choices, rounds, calls, catches, own items and locals."""

from wordmint.effects import Summary
from wordmint.forms import EFFECTS
from wordmint.stores import Store

SOURCES = ("lit", "lit", "lit", "data", "token", "here", "cell", "ask")
STEADY = {"dup": 1, "drop": 1, "swap": 2, "over": 2, "rot": 3}
ARITHMETIC = "+ - * / mod and or xor = < u< invert 0=".split()
LITERALS = (0, 0, 1, -1, 2, 7, 32767, -32768)


class Drawing:
    """A body that is being drawn; gotos lead to labels until it is finished."""

    def __init__(self, luck, store, most, locals_=0):
        self.luck = luck
        self.store = store
        self.left = most
        self.rows = []
        self.labels = {}
        self.depth = 0
        self.own = 0
        self.locals = locals_
        self.least = 0

    def add(self, op, arg=0, effect=None):
        takes, leaves = EFFECTS[op] if effect is None else effect
        self.rows.append((op, arg))
        self.least = min(self.least, self.depth - takes)
        self.depth += leaves - takes
        self.left -= 1

    def label(self):
        self.labels[len(self.labels)] = None
        return len(self.labels) - 1

    def land(self, label):
        self.labels[label] = len(self.rows)

    def source(self):
        op = self.luck.choice(SOURCES)
        if op == "token" and len(self.store):
            self.add("token", self.luck.randrange(len(self.store)))
        elif op in ("here", "cell", "ask"):
            self.add(op)
        elif op == "data":
            self.add("data", self.luck.choice((0, 2)))
        else:
            self.add("lit", self.luck.choice(LITERALS))

    def to_depth(self, depth):
        while self.depth < depth:
            self.source()
        while self.depth > depth:
            self.add("drop")

    def simple(self):
        luck = self.luck
        lot = luck.random()
        if lot < 0.3:
            self.source()
        elif lot < 0.55:
            self.add(luck.choice(list(STEADY)))
        elif lot < 0.75:
            self.add(luck.choice(ARITHMETIC))
        elif lot < 0.8:
            self.add(luck.choice((".", "emit", "@", "c@", "c,", ",")))
        elif lot < 0.85:
            self.add(">r")
            self.own += 1
        elif lot < 0.9 and self.own:
            if luck.random() < 0.4:
                self.add("r@")
            else:
                self.add("r>")
                self.own -= 1
        elif lot < 0.93:
            self.add("lit", luck.choice((0, 0, 5)))
            self.add("throw")
        elif lot < 0.96:
            self.add("swap")
            self.add("swap")
        elif self.locals:
            if luck.random() < 0.5:
                self.add("local", luck.randrange(self.locals))
            else:
                self.add("set", luck.randrange(self.locals))

    def call(self):
        fits = [number for number, word in enumerate(self.store) if word.effect is not None]
        if not fits:
            return
        number = self.luck.choice(fits)
        word = self.store[number]
        effect = word.effect
        lot = self.luck.random()
        if lot < 0.7 and word.verdict.row is not None:
            self.add("call", number, effect)
        elif max(effect) <= 8:
            self.add("token", number)
            if effect[0] == effect[1] and lot < 0.9:
                self.add("catch", effect[0], (effect[0] + 1, effect[0] + 1))
            else:
                self.add("run", effect, (effect[0] + 1, effect[1]))

    def choice(self):
        other, end = self.label(), self.label()
        if self.luck.random() < 0.3:
            self.add("lit", self.luck.choice((0, 1)))
        self.add("unless", other)
        depth, own = self.depth, self.own
        self.block(3)
        self.settle_own(own)
        self.to_depth(depth)
        if self.luck.random() < 0.8:
            self.add("goto", end)
        self.land(other)
        if self.luck.random() < 0.7:
            self.block(3)
            self.settle_own(own)
            self.to_depth(depth)
        self.land(end)

    def round(self):
        start = self.label()
        self.land(start)
        depth, own = self.depth, self.own
        self.block(3)
        self.settle_own(own)
        self.to_depth(depth)
        if self.luck.random() < 0.4:
            self.add("lit", self.luck.choice((1, 0)) if self.luck.random() < 0.2 else 1)
        else:
            self.add("ask")
        self.add("unless", start)

    def settle_own(self, own):
        while self.own > own:
            self.add("r>")
            self.own -= 1
        while self.own < own:
            self.source()
            self.add(">r")
            self.own += 1

    def block(self, most):
        for _ in range(self.luck.randint(0, most)):
            if self.left < 0:
                return
            lot = self.luck.random()
            if lot < 0.62:
                self.simple()
            elif lot < 0.76:
                self.call()
            elif lot < 0.92:
                self.choice()
            else:
                self.round()

    def body(self):
        rows = [(op, self.labels[arg]) if op in ("goto", "unless") else (op, arg) for op, arg in self.rows]
        return tuple(rows)


def drawn_body(luck, store, most=40):
    """A body that is mostly let by, with or without locals."""
    drawing = Drawing(luck, store, most)
    if luck.random() < 0.2:
        count = luck.randint(1, 3)
        drawing.locals = count
        drawing.add("locals", count, (count, 0))
    while drawing.left > 0 and luck.random() < 0.93:
        drawing.block(6)
    drawing.settle_own(0)
    calls = [number for number, word in enumerate(store) if word.effect is not None]
    if calls and luck.random() < 0.2:
        number = luck.choice(calls)
        drawing.add(luck.choice(("call", "jump")), number, store[number].effect)
    drawing.add("exit")
    return drawing.body()


def straight_body(luck, acts, steps):
    """A straight body of layout steps and of acts that a do row can do."""
    rows = []
    for _ in range(steps):
        rows.append((luck.choice(list(STEADY)), 0) if luck.random() < 0.5 else ("lit", luck.choice(LITERALS)))
    for _ in range(acts):
        rows.insert(luck.randint(0, len(rows)), (luck.choice(ARITHMETIC + "@ ! c@ c! here , c, . ask compile ;".split()), 0))
    rows.append(("exit", 0))
    return tuple(rows)


def recursive_body(luck, store):
    """A body with a recurse; it takes one item and leaves one."""
    drawing = Drawing(luck, store, 12)
    drawing.depth = 1
    end = drawing.label()
    drawing.add(luck.choice(("dup", "lit")), 1)
    rows = drawing.rows
    rows[-1] = (rows[-1][0], 0 if rows[-1][0] == "dup" else 1)
    drawing.add("unless", end)
    depth = drawing.depth
    drawing.block(3)
    drawing.settle_own(0)
    drawing.to_depth(depth)
    drawing.add("recurse", 0, (1, 1))
    if luck.random() < 0.5:
        drawing.add("exit")
    drawing.land(end)
    drawing.add("exit")
    return drawing.body()


def drawn_store(luck, width=16, words=7):
    """A store of plain, deferred and wrong words."""
    store = Store(width)
    for _ in range(luck.randint(2, words)):
        lot = luck.random()
        if lot < 0.12:
            fits = [number for number, word in enumerate(store) if word.effect is not None and max(word.effect) <= 8]
            if fits and luck.random() < 0.7:
                number = luck.choice(fits)
                store.defer(store[number].effect, action=number)
            else:
                store.defer((luck.randint(0, 2), luck.randint(0, 2)))
        elif lot < 0.24:
            store.define(recursive_body(luck, store), declared=(1, 1))
        else:
            body = drawn_body(luck, store, luck.choice((4, 10, 25, 60)))
            declared = None
            if luck.random() < 0.3:
                probe = store.copy()
                verdict = probe[probe.define(body)].verdict
                if isinstance(verdict, Summary) and max(verdict.ins, verdict.outs) < 8:
                    declared = (verdict.ins + luck.randint(0, 1), verdict.outs)
                    declared = (declared[0], declared[0] + verdict.outs - verdict.ins)
            store.define(body, declared=declared)
    return store
