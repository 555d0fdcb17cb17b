"""What the rows of code do in an engine.

What does a row is passed the engine, its last frame and the parts of the row; it throws or halts before it changes
anything.
"""

from wordmint.acts import are_kinds, shape
from wordmint.code import gives, instruction_of, takes
from wordmint.errors import Thrown
from wordmint.forms import PLACE_OPS
from wordmint.frames import Halt
from wordmint.moves import call, end, go_to, jump


class Parts:
    """A row of code, taken apart: its verb, the instruction, the sources that it takes, the register that it gives.

    The argument of a goto or unless is the row to which it leads.
    """

    def __init__(self, row):
        self.verb = row[0]
        self.op, self.arg = instruction_of(row)
        if self.verb in PLACE_OPS:
            self.arg = row[-1]
        self.sources = takes(row)
        self.slot = gives(row)


def item_of(frame, source):
    """The item of a source."""
    op, arg = source
    if op == "reg":
        return frame.cache[arg]
    return (arg,) if op == "token" else arg


def spill(engine, frame, parts):
    """The row spill, for which the stack must have room."""
    if len(engine.pile) >= engine.data:
        raise Halt("over")
    engine.pile.append(item_of(frame, parts.sources[0]))
    frame.place += 1


def fill(engine, frame, parts):
    """The row fill."""
    if not engine.pile:
        raise Thrown(-1)
    frame.cache[parts.slot] = engine.pile.pop()
    frame.place += 1


def put(engine, frame, parts):
    """The row put."""
    frame.cache[parts.slot] = item_of(frame, parts.sources[0])
    frame.place += 1


def lead(engine, frame, parts):
    """The row goto."""
    go_to(engine, frame, parts.arg)


def choose(engine, frame, parts):
    """The row unless."""
    number = item_of(frame, parts.sources[0])
    if isinstance(number, tuple):
        raise Thrown(-4)
    frame.place = parts.arg if number == 0 else frame.place + 1


def begin_call(engine, frame, parts):
    """The row call; behind it registers hold nothing."""
    call(engine, frame, parts.arg)
    frame.forget_registers()


def begin_jump(engine, frame, parts):
    """The row jump."""
    jump(engine, frame, parts.arg)


def leave(engine, frame, parts):
    """The row exit."""
    end(engine, frame, 0)


def do_plain(engine, frame, parts):
    """The row plain, which does an instruction on the stack."""
    engine.do(frame, (parts.op, parts.arg))
    frame.forget_registers()


def do_cached(engine, frame, parts):
    """All rows that do an act with the items of sources."""
    act = engine.act_for(parts.op)
    taken = tuple([item_of(frame, source) for source in parts.sources])
    if not are_kinds(shape(parts.op, parts.arg)[0], taken):
        raise Thrown(-4)
    left = act(engine, (parts.op, parts.arg), taken)
    if left:
        frame.cache[parts.slot] = left[0]
    frame.place += 1


ROWS = {
    "spill": spill, "fill": fill, "put": put, "goto": lead, "unless": choose, "call": begin_call, "jump": begin_jump,
    "exit": leave, "plain": do_plain, "do": do_cached, "throw": do_cached, "keep": do_cached, "back": do_cached,
    "look": do_cached, "locals": do_cached, "local": do_cached, "set": do_cached,
}


def do_row(engine, frame, parts):
    """Does a row of code in the last frame."""
    act = ROWS[parts.verb]
    act(engine, frame, parts)
