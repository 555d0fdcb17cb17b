"""The rows of code for registers, and what layout steps do."""

from wordmint.cells import ARITHMETIC, is_between, is_integer
from wordmint.forms import (
    ALONE_OPS, BUILDING, EFFECTS, HIGHEST_ADDRESS, MOST_LOCALS, MOST_TAKEN, WORD_OPS, is_effect, is_zero,
)
from wordmint.stores import MOST_WORDS

NO_REGISTER = -1
DONE_OPS = ("@", "!", "c@", "c!", "here", "allot", ",", "c,", "cell", ".", "emit", "type", "ask")
TWO_LEFT = ("pad,", "lookup")
SOURCE_STEPS = ("lit", "data", "token")
MOVE_STEPS = ("dup", "drop", "swap", "over", "rot")
# The parts of each row but do and plain: s a source, r a register, t a row, w a word, k a local, m sources.
PARTS = {
    "spill": "s", "fill": "r", "put": "rs", "throw": "s", "unless": "st", "goto": "t", "call": "w", "jump": "w",
    "exit": "", "keep": "s", "back": "r", "look": "r", "locals": "m", "local": "kr", "set": "ks",
}
ROW_OPS = {"keep": ">r", "back": "r>", "look": "r@"}
CONTROL_OPS = ("goto", "unless", "exit", "call", "jump")
OTHER_OPS = ("deferred", "forget")


def is_done(op):
    """Whether a do row can do this act."""
    return op in ARITHMETIC or op in DONE_OPS or (op in BUILDING and op not in TWO_LEFT)


def is_step(op):
    """Whether it is a layout step."""
    return op in SOURCE_STEPS or op in MOVE_STEPS


def is_argument(op, arg, last_number):
    """Whether a literal, an address or a word in a row may have this argument."""
    if op == "lit":
        return is_integer(arg)
    return is_between(arg, 0, HIGHEST_ADDRESS if op == "data" else last_number)


def is_source(source, registers):
    """Whether it is a source for so many registers."""
    if not isinstance(source, tuple) or len(source) != 2 or not isinstance(source[0], str):
        return False
    op, arg = source
    if op == "reg":
        return is_between(arg, 0, registers - 1)
    return op in SOURCE_STEPS and is_argument(op, arg, MOST_WORDS - 1)


def are_sources(sources, registers, low, high):
    """Whether it is a tuple of so many sources."""
    return (isinstance(sources, tuple) and low <= len(sources) <= high
            and all([is_source(source, registers) for source in sources]))


def is_part(kind, part, registers, rows):
    """Whether it is a part of this kind."""
    if kind == "s":
        return is_source(part, registers)
    if kind == "m":
        return are_sources(part, registers, 1, MOST_LOCALS)
    bounds = {"r": registers, "t": rows, "w": MOST_WORDS, "k": MOST_LOCALS}
    return is_between(part, 0, bounds[kind] - 1)


def is_do(op, sources, slot, registers):
    """Whether a do row may have these parts."""
    if not isinstance(op, str) or not is_done(op):
        return False
    count, leaves = EFFECTS[op]
    if not are_sources(sources, registers, count, count):
        return False
    if leaves == 0:
        return is_integer(slot) and slot == NO_REGISTER
    return is_between(slot, 0, registers - 1)


def is_plain(op, arg):
    """Whether a plain row may do this instruction."""
    if not isinstance(op, str) or op in CONTROL_OPS:
        return False
    if op in SOURCE_STEPS or op in WORD_OPS:
        return is_argument(op, arg, MOST_WORDS - 1)
    if op == "locals":
        return is_between(arg, 1, MOST_LOCALS)
    if op in ("local", "set"):
        return is_between(arg, 0, MOST_LOCALS - 1)
    if op == "run":
        return is_effect(arg)
    if op == "catch":
        return is_between(arg, 0, MOST_TAKEN)
    return (op in EFFECTS or op in ALONE_OPS or op in OTHER_OPS) and is_zero(arg)


def is_row(row, registers, rows):
    """Whether it has one of the forms of a row, for so many registers in a code of so many rows."""
    if not isinstance(row, tuple) or len(row) == 0 or not isinstance(row[0], str):
        return False
    if row[0] == "do":
        return len(row) == 4 and is_do(row[1], row[2], row[3], registers)
    if row[0] == "plain":
        return len(row) == 3 and is_plain(row[1], row[2])
    kinds = PARTS.get(row[0])
    if kinds is None or len(row) != len(kinds) + 1:
        return False
    return all([is_part(kind, part, registers, rows) for kind, part in zip(kinds, row[1:])])


def takes(row):
    """The tuple of the sources that stand in a row, in order."""
    if row[0] == "do":
        return row[2]
    kinds = PARTS.get(row[0], "")
    if kinds == "m":
        return row[1]
    return tuple([part for kind, part in zip(kinds, row[1:]) if kind == "s"])


def gives(row):
    """The register that a row writes, or -1."""
    if row[0] == "do":
        return row[3]
    found = [part for kind, part in zip(PARTS.get(row[0], ""), row[1:]) if kind == "r"]
    return found[0] if found else NO_REGISTER


def instruction_of(row):
    """The instruction that a row does; 0 stands for the place of an unless, which only the body tells.

    There is none for spill, fill, put and goto, which only move items or lead on.
    """
    if row[0] == "do":
        return (row[1], 0)
    if row[0] == "plain":
        return (row[1], row[2])
    if row[0] == "locals":
        return ("locals", len(row[1]))
    if row[0] in ("call", "jump", "local", "set"):
        return (row[0], row[1])
    return (ROW_OPS.get(row[0], row[0]), 0)


def after_step(op, arg, layout):
    """The layout behind a layout step, or None if it has too few items."""
    if op in SOURCE_STEPS:
        return (*layout, (op, arg))
    base = len(layout) - EFFECTS[op][0]
    if base < 0:
        return None
    rest = layout[:base]
    taken = layout[base:]
    if op == "dup":
        return (*rest, taken[0], taken[0])
    if op == "drop":
        return rest
    if op == "swap":
        return (*rest, taken[1], taken[0])
    if op == "over":
        return (*rest, taken[0], taken[1], taken[0])
    return (*rest, taken[1], taken[2], taken[0])


def after_steps(body, place, layout, goal):
    """The layout behind the layout steps from the place to the goal, or None if they do not lead there."""
    while place != goal:
        if place > goal or place >= len(body) or not is_step(body[place][0]):
            return None
        op, arg = body[place]
        layout = after_step(op, arg, layout)
        if layout is None:
            return None
        place += 1
    return layout


def end_of_steps(body, place, layout):
    """The first place from a place on that has no layout step, and the layout there; None if it has too few items."""
    while is_step(body[place][0]) and layout is not None:
        op, arg = body[place]
        layout = after_step(op, arg, layout)
        place += 1
    return (place, layout)
