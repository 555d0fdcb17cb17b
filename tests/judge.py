"""A plain judge of code and papers, written from the point [34] of the document alone."""

from wordmint.forms import EFFECTS
from tests import reference

ONE_SOURCE = ("spill", "throw", "keep")
LAYOUT_OPS = ("lit", "data", "token", "dup", "drop", "swap", "over", "rot")
DO_OPS = "+ - * / mod and or xor = < u< invert 0= @ ! c@ c! here allot , c, cell . emit type ask".split()
BUILDING = """word parse pad@ ' compile literal address local, state [ ] : ; [: ;] self, run, catch, is, to, { postpone
immediate create behave defer marker <mark <goto <unless goto> unless> >land new-list also previous into""".split()
ROW_LENGTHS = {"spill": 2, "fill": 2, "put": 3, "do": 4, "throw": 2, "unless": 3, "goto": 2, "call": 2, "jump": 2,
               "exit": 1, "keep": 2, "back": 2, "look": 2, "locals": 2, "local": 3, "set": 3, "plain": 3}


def is_int(thing):
    return isinstance(thing, int) and not isinstance(thing, bool)


def good_source(source, registers):
    if not isinstance(source, tuple) or len(source) != 2 or not is_int(source[1]):
        return False
    if source[0] == "reg":
        return 0 <= source[1] < registers
    return source[0] in ("lit", "data", "token")


def good_form(row, registers, count):
    """Whether the row has a form of [32], as far as made code must keep it."""
    if not isinstance(row, tuple) or not row or len(row) != ROW_LENGTHS.get(row[0], 0):
        return False
    for source in sources_of(row):
        if not good_source(source, registers):
            return False
    if row[0] == "do":
        if row[1] not in DO_OPS + BUILDING or len(row[2]) != EFFECTS[row[1]][0]:
            return False
        return row[3] == -1 if EFFECTS[row[1]][1] == 0 else 0 <= row[3] < registers
    if row[0] in ("fill", "put", "back", "look"):
        return is_int(row[1]) and 0 <= row[1] < registers
    if row[0] == "local":
        return 0 <= row[2] < registers
    if row[0] in ("goto", "unless"):
        return is_int(row[-1]) and 0 <= row[-1] < count
    if row[0] == "plain":
        return row[1] not in ("goto", "unless", "exit", "call", "jump")
    return True


def sources_of(row):
    if row[0] in ONE_SOURCE:
        return (row[1],)
    if row[0] == "unless":
        return (row[1],)
    if row[0] in ("put", "set"):
        return (row[2],)
    if row[0] == "do":
        return row[2]
    if row[0] == "locals":
        return row[1]
    return ()


def given(row):
    if row[0] in ("back", "look"):
        return row[1]
    if row[0] == "do":
        return row[3]
    return row[2] if row[0] == "local" else -1


def stepped(body, place, layout):
    """The layout behind the layout step at a place, or None."""
    if place >= len(body):
        return None
    op, arg = body[place]
    if op not in LAYOUT_OPS:
        return None
    rows = list(layout)
    if len(rows) < EFFECTS[op][0]:
        return None
    if op in ("lit", "data", "token"):
        rows.append((op, arg))
    elif op == "dup":
        rows.append(rows[-1])
    elif op == "drop":
        rows.pop()
    elif op == "swap":
        rows[-2:] = [rows[-1], rows[-2]]
    elif op == "over":
        rows.append(rows[-2])
    else:
        rows[-3:] = [rows[-2], rows[-1], rows[-3]]
    return tuple(rows)


def to_place(body, place, layout, goal):
    while place < goal and layout is not None:
        layout = stepped(body, place, layout)
        place += 1
    return layout if place == goal else None


def to_other(body, place, layout):
    """Up to the first place that has no op of a layout step."""
    while layout is not None and body[place][0] in LAYOUT_OPS:
        layout = stepped(body, place, layout)
        place += 1
    return place, layout


class Judge:
    def __init__(self, store, number, rows, paper, registers):
        self.words = store.words
        self.word = store.words[number]
        self.body = self.word.body
        self.registers = registers
        self.rows = rows
        self.paper = paper
        if self.word.kind == "deferred":
            self.depths = {0: 0, 1: self.word.declared[1] - self.word.declared[0]}
        else:
            check = reference.Check(self.words[:number], self.body, self.word.declared)
            self.depths = {place: first[1] for place, first in check.firsts.items()}

    def verdict(self):
        rows, paper = self.rows, self.paper
        if not isinstance(rows, tuple) or not isinstance(paper, tuple) or not rows or len(rows) != len(paper):
            return 0
        for at in range(len(rows)):
            if not self.good_row(at):
                return at
        return None

    def entry(self, at):
        if at >= len(self.paper):
            return None
        entry = self.paper[at]
        if not isinstance(entry, tuple) or len(entry) != 2 or not is_int(entry[0]) or entry[0] not in self.depths:
            return None
        if not isinstance(entry[1], tuple) or not all(good_source(part, self.registers) for part in entry[1]):
            return None
        return entry

    def good_row(self, at):
        row, entry = self.rows[at], self.entry(at)
        if entry is None or not good_form(row, self.registers, len(self.rows)):
            return False
        if at == 0 and entry != (0, ()):
            return False
        place, layout = entry
        if row[0] == "goto":
            return self.good_goto(at, row[1], place, layout)
        if row[0] in ("jump", "exit") or self.is_end(row):
            where, last = to_other(self.body, place, layout)
            return last == () and self.same(row, self.body[where])
        then = self.entry(at + 1)
        if then is None:
            return False
        if row[0] in ("spill", "fill", "put"):
            return self.good_move(row, place, layout, then)
        return self.good_other(row, place, layout, then)

    def is_end(self, row):
        if row[0] == "call":
            verdict = self.words[row[1]].verdict
            return getattr(verdict, "row", None) is None
        return row == ("plain", "recurse", 0) and self.word.verdict.row is None

    def same(self, row, instruction):
        op, arg = instruction
        if row[0] == "plain":
            return row[1:] == instruction
        if row[0] == "do":
            return row[1] == op
        names = {"keep": ">r", "back": "r>", "look": "r@"}
        if names.get(row[0], row[0]) != op:
            return False
        if row[0] in ("call", "jump", "local", "set"):
            return row[1] == arg
        return len(row[1]) == arg if row[0] == "locals" else True

    def good_goto(self, at, target, place, layout):
        entry = self.entry(target)
        if entry is None:
            return False
        if target > at and to_place(self.body, place, layout, entry[0]) == entry[1] and place <= entry[0]:
            return True
        where, last = to_other(self.body, place, layout)
        return last is not None and self.body[where][0] == "goto" and entry == (self.body[where][1], last)

    def good_move(self, row, place, layout, then):
        last = to_place(self.body, place, layout, then[0])
        if last is None:
            return False
        if row[0] == "spill":
            return len(last) > 0 and last[0] == row[1] and then[1] == last[1:]
        slot = ("reg", row[1])
        if slot in last:
            return False
        if row[0] == "fill":
            room = self.word.verdict.ins + self.depths[then[0]]
            return then[1] == (slot,) + last and len(then[1]) <= room
        return row[2] in last and then[1] == tuple(slot if part == row[2] else part for part in last)

    def good_other(self, row, place, layout, then):
        where = then[0] - 1
        last = to_place(self.body, place, layout, where)
        if last is None or not self.same(row, self.body[where]):
            return False
        if row[0] in ("call", "plain"):
            return last == () and then[1] == ()
        sources = sources_of(row)
        base = len(last) - len(sources)
        if base < 0 or last[base:] != tuple(sources):
            return False
        rest = last[:base]
        if row[0] == "unless":
            if self.entry(row[2]) != (self.body[where][1], rest):
                return False
        slot = given(row)
        if slot >= 0:
            if ("reg", slot) in rest:
                return False
            rest = rest + (("reg", slot),)
        return then[1] == rest
