"""The judge: it tells whether code and paper do what the body of a word does, row by row."""

from wordmint.caching import check_registers
from wordmint.cells import is_integer
from wordmint.code import (
    NO_REGISTER, after_steps, end_of_steps, gives, instruction_of, is_row, is_source, takes,
)
from wordmint.effects import depths
from wordmint.errors import NotChecked
from wordmint.folding import returns
from wordmint.stores import need_word

MOVING = ("spill", "fill", "put")
WHOLE_STACK = ("call", "plain")


class Case:
    """Code and paper of a word that are looked at."""

    def __init__(self, store, number, rows, paper, registers):
        self.words = store.words
        self.number = number
        self.subject = store.words[number]
        self.body = self.subject.body
        self.rows = rows
        self.paper = paper
        self.registers = registers
        self.depths = depths(store.words, self.body, self.subject.declared)
        # Whether the entry of each row is one at all.
        self.known = [self.is_entry(entry) for entry in paper]

    def is_entry(self, entry):
        """Whether it is a pair of a place to which the walk comes and a tuple of sources."""
        if not isinstance(entry, tuple) or len(entry) != 2:
            return False
        place, layout = entry
        if not is_integer(place) or place not in self.depths or not isinstance(layout, tuple):
            return False
        return all([is_source(source, self.registers) for source in layout])

    def entry_of(self, at):
        """The entry of a row, or None if there is no such row or the entry is none."""
        if at >= len(self.paper) or not self.known[at]:
            return None
        return self.paper[at]

    def is_good(self, at):
        """Whether a row does what it must do."""
        row = self.rows[at]
        if not self.known[at] or not is_row(row, self.registers, len(self.rows)):
            return False
        if at == 0 and self.paper[0] != (0, ()):
            return False
        if row[0] == "goto":
            return self.is_good_goto(at)
        if self.is_end(row):
            return self.is_good_end(at)
        following = self.entry_of(at + 1)
        if following is None:
            return False
        if row[0] in MOVING:
            return self.is_good_move(at, following)
        return self.is_good_act(at, following)

    def is_end(self, row):
        """Whether the code does not go on behind a row."""
        op, arg = instruction_of(row)
        if op == "call":
            # A body calls older words alone.
            return arg >= self.number or not returns(self.words, arg)
        if op == "recurse":
            return self.subject.verdict.row is None
        return op in ("jump", "exit")

    def is_good_end(self, at):
        """Whether a row at which the code ends is good: the body ends so, and nothing is left in the layout."""
        place, layout = self.paper[at]
        place, layout = end_of_steps(self.body, place, layout)
        return layout == () and self.body[place] == instruction_of(self.rows[at])

    def is_good_goto(self, at):
        """Whether a goto leads to a row at which the body stands, too."""
        target = self.rows[at][1]
        entry = self.entry_of(target)
        if entry is None:
            return False
        place, layout = self.paper[at]
        if target > at and after_steps(self.body, place, layout, entry[0]) == entry[1]:
            return True
        place, layout = end_of_steps(self.body, place, layout)
        if layout is None:
            return False
        op, arg = self.body[place]
        return op == "goto" and entry == (arg, layout)

    def is_good_move(self, at, following):
        """Whether a row that only moves items is good."""
        row = self.rows[at]
        place, layout = self.paper[at]
        goal, wanted = following
        layout = after_steps(self.body, place, layout, goal)
        if layout is None:
            return False
        if row[0] == "spill":
            return layout[:1] == (row[1],) and wanted == layout[1:]
        cell = ("reg", row[1])
        if cell in layout:
            return False
        if row[0] == "fill":
            return wanted == (cell, *layout) and len(wanted) <= self.subject.verdict.ins + self.depths[goal]
        return row[2] in layout and wanted == tuple([cell if source == row[2] else source for source in layout])

    def is_good_act(self, at, following):
        """Whether a row that does an instruction, behind which the code goes on, is good."""
        row = self.rows[at]
        place, layout = self.paper[at]
        goal = following[0] - 1
        layout = after_steps(self.body, place, layout, goal)
        if layout is None:
            return False
        op, arg = instruction_of(row)
        if row[0] == "unless":
            arg = self.body[goal][1]
        if self.body[goal] != (op, arg):
            return False
        if row[0] in WHOLE_STACK:
            return layout == () and following[1] == ()
        sources = takes(row)
        base = len(layout) - len(sources)
        if base < 0 or layout[base:] != sources:
            return False
        rest = layout[:base]
        if row[0] == "unless" and self.entry_of(row[2]) != (arg, rest):
            return False
        return self.is_left(row, rest, following[1])

    def is_left(self, row, rest, wanted):
        """Whether what is left of a layout, with the register that a row gives, is the wanted layout."""
        slot = gives(row)
        if slot == NO_REGISTER:
            return wanted == rest
        return ("reg", slot) not in rest and wanted == (*rest, ("reg", slot))


def judge(store, number, rows, paper, registers):
    """None if code and paper of a word are good, otherwise the number of the first bad row."""
    need_word(store, number)
    if store.words[number].effect is None:
        raise NotChecked(number)
    check_registers(registers)
    if not isinstance(rows, tuple) or not isinstance(paper, tuple) or not rows or len(rows) != len(paper):
        return 0
    case = Case(store, number, rows, paper, registers)
    for at in range(len(rows)):
        if not case.is_good(at):
            return at
    return None
