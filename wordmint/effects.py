"""The checker: it walks a body with free answers and tells what the word takes and leaves, or why it is refused.

A row of answers is kept as an integer: a one, followed by the answers as binary digits. The integers are ordered as
the rows are: by length, then by the first answer in which they differ.
"""

from heapq import heappop, heappush

from wordmint.forms import EFFECTS

NO_ANSWERS = 1
LONGEST_ROW = 1000
DEEPEST_TAKEN = 200
# Where a way stands behind a jump whose word returns.
OUT = -1
UNKNOWN_KINDS = {"recurse": "unsaid", "perform": "free", "forget": "free", "call": "callee", "jump": "callee"}
UNBOUND_OPS = ("recurse", "run", "catch", "deferred")
# What hangs on answers or own items, or moves the place: such a body is walked.
WALKED_OPS = ("goto", "unless", "exit", "throw", ">r", "r>", "r@")


class Summary:
    """The verdict about a word that is let by."""

    def __init__(self, ins, outs, rise, frames, row):
        self.ins = ins
        self.outs = outs
        self.rise = rise
        self.frames = frames
        self.row = row

    @property
    def effect(self):
        """How many items the word takes and leaves."""
        return (self.ins, self.outs)

    def __eq__(self, other):
        return (isinstance(other, Summary) and self.ins == other.ins and self.outs == other.outs
                and self.rise == other.rise and self.frames == other.frames and self.row == other.row)


class Refusal:
    """The verdict about a word that is refused."""

    def __init__(self, kind, place, row, other, number, need):
        self.kind = kind
        self.place = place
        self.row = row
        self.other = other
        self.number = number
        self.need = need

    @property
    def effect(self):
        """A refused word has none."""
        return None

    def __eq__(self, other):
        return (isinstance(other, Refusal) and self.kind == other.kind and self.place == other.place
                and self.row == other.row and self.other == other.other and self.number == other.number
                and self.need == other.need)


class Walk:
    """A walk of a body: what it came to so far, and the ways that it has yet to look at."""

    def __init__(self, words, body, declared):
        self.words = words
        self.body = body
        self.declared = declared
        # The codes of the rows of called words, by their numbers, and of the row of the checked word itself.
        self.codes = {}
        self.own = None
        # For each place how it was come to first: (code, depth, held, need); held counts the own items, need the
        # items below the beginning that the way took.
        self.firsts = {}
        # The exit that was come to first: (code, depth, need).
        self.way_out = None
        # Ways: (code, steps, place, jump, depth, held, need); at OUT jump is the place of the jump.
        self.queue = [(NO_ANSWERS, 0, 0, 0, 0, 0, 0)]


def code_of(row):
    """The integer for a row of answers."""
    code = NO_ANSWERS
    for answer in row:
        code = 2 * code + answer
    return code


def row_of(code):
    """The row of answers that an integer stands for."""
    digits = f"{code:b}"
    return tuple([int(digit) for digit in digits[1:]])


def length_of(code):
    """How many answers the row has."""
    return code.bit_length() - 1


def joined(code, more):
    """The integer for a row followed by another one."""
    length = length_of(more)
    return (code << length) + more - (1 << length)


def effect_at(walk, place):
    """The effect of the instruction at a place, or None if it has none that is known."""
    op, arg = walk.body[place]
    return effect_of(walk.words, walk.declared, op, arg)


def effect_of(words, declared, op, arg):
    """The effect of an instruction in a word with this declared effect, or None."""
    if op in EFFECTS:
        return EFFECTS[op]
    if op == "locals":
        return (arg, 0)
    if op in ("call", "jump"):
        return words[arg].effect
    if op in ("recurse", "deferred"):
        return declared
    if op == "run":
        return (arg[0] + 1, arg[1])
    if op == "catch":
        return (arg + 1, arg + 1)
    return None


def word_code(walk, number):
    """The integer for the row of an older word, or None if it has no row."""
    if number not in walk.codes:
        verdict = walk.words[number].verdict
        known = verdict.effect is not None and verdict.row is not None
        walk.codes[number] = code_of(verdict.row) if known else None
    return walk.codes[number]


def behind(place, code, more):
    """The way on to a place with more answers, or none if the answers are None."""
    return [] if more is None else [(place, joined(code, more))]


def onward(walk, place, code):
    """The places to which the instruction at a place leads, each with the row there."""
    op, arg = walk.body[place]
    if op == "goto":
        return [(arg, code)]
    if op == "unless":
        return [(arg, 2 * code), (place + 1, 2 * code + 1)]
    if op == "throw":
        return [(place + 1, 2 * code)]
    if op == "call":
        return behind(place + 1, code, word_code(walk, arg))
    if op == "recurse":
        return behind(place + 1, code, walk.own)
    if op == "jump":
        return behind(OUT, code, word_code(walk, arg))
    if op == "exit":
        return []
    return [(place + 1, code)]


def own_code(walk):
    """The integer for the least row to an exit that no recurse leads to, whatever is refused; None if there is none.

    The walk must not yet have a row of its own: so a recurse ends the way.
    """
    queue = [(NO_ANSWERS, 0, 0)]
    seen = {}
    while queue:
        code, steps, place = heappop(queue)
        if place == OUT or walk.body[place][0] == "exit":
            return code
        if place not in seen:
            seen[place] = True
            for where, longer in list(onward(walk, place, code)):
                if length_of(longer) <= LONGEST_ROW:
                    heappush(queue, (longer, steps + 1, where))
    return None


def least_row(words, body):
    """The least row of a body to an exit that no recurse leads to, whatever is refused; None if there is none."""
    code = own_code(Walk(words, body, None))
    return None if code is None else row_of(code)


def fault(walk, place, depth, held):
    """Which of the first seven refusals is met at a place, or an empty string."""
    op = walk.body[place][0]
    effect = effect_at(walk, place)
    declared = walk.declared
    if effect is None:
        return UNKNOWN_KINDS[op]
    if declared is not None and depth - effect[0] < -declared[0]:
        return "under"
    if op in ("r>", "r@") and held == 0:
        return "own"
    if op in ("exit", "jump") and held > 0:
        return "left"
    if op == "exit" and is_out(walk, depth):
        return "out"
    return ""


def is_out(walk, depth):
    """Whether an exit at this depth breaks the declared effect."""
    return walk.declared is not None and depth != walk.declared[1] - walk.declared[0]


def end_need(walk, place, depth, need):
    """The need of a way up to its end; only a jump of a word that is let by counts at the end itself."""
    effect = effect_at(walk, place)
    if walk.body[place][0] != "jump" or effect is None:
        return need
    return max(need, effect[0] - depth)


def refused(walk, kind, place, code, need, other=None):
    """The refusal at a place; other is the integer for the row of the way that came first."""
    op, arg = walk.body[place]
    number = arg if kind == "callee" else None
    if walk.declared is not None:
        need = walk.declared[0]
    first = None if other is None else row_of(other)
    return Refusal(kind, place, row_of(code), first, number, need)


def at_out(walk, place, code, depth, need):
    """Looks at an exit, that of the place or behind the jump there; the refusal that is met, or None."""
    if is_out(walk, depth):
        return refused(walk, "out", place, code, need)
    if walk.way_out is None:
        walk.way_out = (code, depth, need)
    other, first_depth, first_need = walk.way_out
    if depth != first_depth:
        return refused(walk, "ragged", place, code, max(need, first_need), other)
    return None


def is_long(effect, depth, ways):
    """Whether an instruction takes an item too far below the beginning, or leads to rows that are too long."""
    if effect[0] - depth > DEEPEST_TAKEN:
        return True
    return any([length_of(code) > LONGEST_ROW for where, code in ways])


def again(walk, place, code, depth, need):
    """The refusal of a way that comes to a place in another standing than the first one did."""
    other, first_depth, _, first_need = walk.firsts[place]
    most = max(end_need(walk, place, depth, need), end_need(walk, place, first_depth, first_need))
    return refused(walk, "ragged", place, code, most, other)


def held_behind(op, held):
    """How many own items there are behind an instruction."""
    if op == ">r":
        return held + 1
    return held - 1 if op == "r>" else held


def go_on(walk, way, ways):
    """Keeps a way as the first one to its place, and queues the ways that lead on from there."""
    code, steps, place, _, depth, held, need = way
    walk.firsts[place] = (code, depth, held, need)
    takes, leaves = effect_at(walk, place)
    held = held_behind(walk.body[place][0], held)
    for where, longer in list(ways):
        more = (depth - takes + leaves, held, max(need, takes - depth))
        heappush(walk.queue, (longer, steps + 1, where, place, *more))


def come(walk, way):
    """Looks at a way that comes to a place; the refusal that is met there, or None."""
    code, _, place, _, depth, held, need = way
    before = walk.firsts.get(place)
    if before is not None and before[1] == depth and before[2] == held:
        return None
    kind = fault(walk, place, depth, held)
    if kind != "":
        return refused(walk, kind, place, code, end_need(walk, place, depth, need))
    if before is not None:
        return again(walk, place, code, depth, need)
    if walk.body[place][0] == "exit":
        refusal = at_out(walk, place, code, depth, need)
        if refusal is not None:
            return refusal
    ways = onward(walk, place, code)
    if is_long(effect_at(walk, place), depth, ways):
        return refused(walk, "long", place, code, end_need(walk, place, depth, need))
    go_on(walk, way, ways)
    return None


def walked(words, body, declared):
    """A walk that went to its end or to a refusal, and the refusal or None."""
    walk = Walk(words, body, declared)
    if any([op == "recurse" for op, arg in body]):
        walk.own = own_code(walk)
    while walk.queue:
        way = heappop(walk.queue)
        code, _, place, jump, depth, _, need = way
        if place == OUT:
            refusal = at_out(walk, jump, code, depth, need)
        else:
            refusal = come(walk, way)
        if refusal is not None:
            return (walk, refusal)
    return (walk, None)


def rise_of(walk):
    """The greatest depth of the walk, and how many frames it needs; None for both if that hangs on the run."""
    rise = 0
    frames = 1
    for place in walk.firsts:
        op, arg = walk.body[place]
        depth = walk.firsts[place][1]
        rise = max(rise, depth)
        if op in UNBOUND_OPS:
            return (None, None)
        if op in ("call", "jump"):
            verdict = walk.words[arg].verdict
            if verdict.rise is None:
                return (None, None)
            rise = max(rise, depth + verdict.rise)
            frames = max(frames, verdict.frames + (1 if op == "call" else 0))
    return (rise, frames)


def summary_of(walk):
    """The summary of a word whose walk met no refusal."""
    ins = max([effect_at(walk, place)[0] - walk.firsts[place][1] for place in walk.firsts] + [0])
    outs = ins
    row = None
    if walk.way_out is not None:
        code, depth, _ = walk.way_out
        outs = ins + depth
        row = row_of(code)
    if walk.declared is not None:
        ins, outs = walk.declared
    rise, frames = rise_of(walk)
    return Summary(ins, outs, rise, frames, row)


def straight(body, declared):
    """The summary of a body that goes straight on to its end; None if it does not, or may be refused."""
    depth, need, rise = (0, 0, 0)
    for op, _ in body[:-1]:
        if op in WALKED_OPS or op not in EFFECTS:
            return None
        takes, leaves = EFFECTS[op]
        need = max(need, takes - depth)
        depth += leaves - takes
        rise = max(rise, depth)
    ins, outs = (need, need + depth) if declared is None else declared
    if body[-1][0] != "exit" or need > min(ins, DEEPEST_TAKEN) or outs - ins != depth:
        return None
    return Summary(ins, outs, rise, 1, ())


def check(words, body, declared=None):
    """The verdict about a body over older words."""
    summary = straight(body, declared)
    if summary is not None:
        return summary
    walk, refusal = walked(words, body, declared)
    return summary_of(walk) if refusal is None else refusal


def standings(words, body, declared=None):
    """How each place was come to first, ahead of a refusal: (place, depth, held, row), ascending."""
    walk, _ = walked(words, body, declared)
    # Many places share a row, which may be long.
    rows = {}
    told = []
    for place in sorted(walk.firsts):
        code, depth, held, _ = walk.firsts[place]
        if code not in rows:
            rows[code] = row_of(code)
        told.append((place, depth, held, rows[code]))
    return told


def depths(words, body, declared=None):
    """The depth at each place that the walk comes to ahead of a refusal, as it came to it first."""
    walk, _ = walked(words, body, declared)
    return {place: walk.firsts[place][1] for place in walk.firsts}
