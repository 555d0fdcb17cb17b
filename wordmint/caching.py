"""Made code: the bodies of words that are let by, led to registers, with a paper for each."""

from wordmint.cells import is_between
from wordmint.code import NO_REGISTER, after_step, is_done, is_step
from wordmint.effects import standings
from wordmint.errors import BadRegisters, NotChecked
from wordmint.folding import returns
from wordmint.forms import EFFECTS, PLACE_OPS
from wordmint.stores import need_word

LEAST_REGISTERS = 2
MOST_REGISTERS = 8


def check_registers(registers):
    """Raises BadRegisters unless there may be so many."""
    if not is_between(registers, LEAST_REGISTERS, MOST_REGISTERS):
        raise BadRegisters(registers)


def registers_in(layout):
    """The registers that hold something in a layout, each once."""
    return sorted({arg for op, arg in layout if op == "reg"})


class Coder:
    """Code that is being made for a word, and the layout at the place of the body to which it has come.

    The layout of all places to which a goto or unless leads is empty.
    """

    def __init__(self, store, number, registers):
        self.words = store.words
        # The least row of the word, or None if it never returns.
        self.row = store.words[number].verdict.row
        self.registers = registers
        self.rows = []
        self.paper = []
        # The row at which the code of a place to which gotos lead begins.
        self.starts = {}
        self.place = 0
        self.layout = ()
        # Where the body stands behind the last row.
        self.entry = (0, ())

    def put_row(self, row, place, layout):
        """Adds a row, behind which the body stands at a place with a layout."""
        self.rows.append(row)
        self.paper.append(self.entry)
        self.place = place
        self.layout = layout
        self.entry = (place, layout)

    def spill(self):
        """Puts the deepest item of the layout on the stack."""
        self.put_row(("spill", self.layout[0]), self.place, self.layout[1:])

    def spill_to(self, count):
        """Spills all but so many items."""
        while len(self.layout) > count:
            self.spill()

    def free(self, count):
        """A register that holds nothing but in the last so many items of the layout, or -1 if there is none."""
        held = registers_in(self.layout[:len(self.layout) - count])
        for slot in range(self.registers):
            if slot not in held:
                return slot
        return NO_REGISTER

    def freed(self, count):
        """A register for what is left behind an act that takes so many items; spills until there is one."""
        slot = self.free(count)
        while slot == NO_REGISTER:
            self.spill()
            slot = self.free(count)
        return slot

    def can_hold(self, count):
        """Whether registers are free for all that is missing in a layout of so many items."""
        return count - len(self.layout) <= self.registers - len(registers_in(self.layout))

    def hold(self, count):
        """Fills registers until the layout has so many items."""
        while len(self.layout) < count:
            slot = self.free(0)
            self.put_row(("fill", slot), self.place, (("reg", slot), *self.layout))

    def parted(self, count):
        """The layout without the last so many items, which it has, and these."""
        base = len(self.layout) - count
        return (self.layout[:base], self.layout[base:])

    def do(self, op, arg):
        """Adds the rows for the instruction at the place; whether the code goes on behind it."""
        if is_step(op):
            return self.do_step(op, arg)
        if is_done(op):
            return self.do_act(op)
        if op in ("throw", ">r", "set", "r>", "r@", "local"):
            return self.do_cached(op, arg)
        if op == "unless":
            self.hold(1)
            self.spill_to(1)
            self.put_row(("unless", self.layout[0], arg), self.place + 1, ())
            return True
        self.spill_to(0)
        if op == "exit":
            self.put_row(("exit",), self.place + 1, ())
        elif op in ("goto", "call", "jump"):
            self.put_row((op, arg), self.place + 1, ())
        else:
            self.put_row(("plain", op, arg), self.place + 1, ())
        return self.goes_on(op, arg)

    def goes_on(self, op, arg):
        """Whether an instruction leads to the next place."""
        if op == "call":
            return returns(self.words, arg)
        if op == "recurse":
            return self.row is not None
        return op not in ("goto", "exit", "jump")

    def do_step(self, op, arg):
        """Adds the rows that a layout step needs."""
        count = EFFECTS[op][0]
        if not self.can_hold(count):
            self.spill_to(0)
            self.put_row(("plain", op, arg), self.place + 1, ())
            return True
        self.hold(count)
        self.layout = after_step(op, arg, self.layout)
        self.place += 1
        return True

    def do_act(self, op):
        """Adds the rows for an act that a do row can do."""
        count, leaves = EFFECTS[op]
        self.hold(count)
        slot = self.freed(count) if leaves == 1 else NO_REGISTER
        rest, taken = self.parted(count)
        left = (("reg", slot),) if leaves == 1 else ()
        self.put_row(("do", op, taken, slot), self.place + 1, (*rest, *left))
        return True

    def do_cached(self, op, arg):
        """Adds the rows for an instruction that has a row of its own."""
        if op in ("r>", "r@", "local"):
            slot = self.freed(0)
            row = ("local", arg, slot) if op == "local" else ("back" if op == "r>" else "look", slot)
            self.put_row(row, self.place + 1, (*self.layout, ("reg", slot)))
            return True
        self.hold(1)
        rest, taken = self.parted(1)
        source = taken[0]
        row = ("set", arg, source) if op == "set" else ("throw" if op == "throw" else "keep", source)
        self.put_row(row, self.place + 1, rest)
        return True

    def land(self, place, follows):
        """Comes to a place to which gotos lead; follows tells whether the code so far leads there."""
        if follows:
            self.spill_to(0)
            if self.entry != (place, ()):
                self.put_row(("goto", place), place, ())
        # Where the code does not lead on from, the layout is empty, too.
        self.place = place
        self.entry = (place, ())
        self.starts[place] = len(self.rows)

    def led(self):
        """The rows, with rows instead of places in gotos and unlesses."""
        return tuple([(*row[:-1], self.starts[row[-1]]) if row[0] in PLACE_OPS else row for row in self.rows])


def landings_of(body, places):
    """The places to which gotos and unlesses at these places lead."""
    return {body[place][1]: True for place in places if body[place][0] in PLACE_OPS}


def made(store, number, registers):
    """The code of a word, and its paper."""
    need_word(store, number)
    word = store.words[number]
    if word.effect is None:
        raise NotChecked(number)
    check_registers(registers)
    coder = Coder(store, number, registers)
    places = [place for place, _, _, _ in standings(store.words, word.body, word.declared)]
    landings = landings_of(word.body, places)
    follows = True
    for place in list(places):
        if place in landings:
            coder.land(place, follows)
        op, arg = word.body[place]
        follows = coder.do(op, arg)
    return (coder.led(), tuple(coder.paper))
