"""What the instructions do that neither move the place nor make frames.

An act is passed the machine, the instruction and the items that it takes, the deepest first; it returns those that
it leaves. It throws before it changes anything.
"""

from wordmint.cells import is_base, result_of, show
from wordmint.errors import BadAddress, BadCode, ByZero, NoRoom, Thrown
from wordmint.forms import EFFECTS
from wordmint.frames import Halt
from wordmint.reading import printed

# The kinds of the items that an instruction takes: x any, t a token, n a number. Those of all others are numbers.
KINDS = {
    "dup": "x", "drop": "x", "swap": "xx", "over": "xx", "rot": "xxx", ">r": "x", "set": "x", "perform": "t",
    "is": "t", "compile": "t", "behave": "t", "literal": "x",
}
NUMBERS = "nnn"


def shape(op, arg):
    """The kinds of the items that an instruction takes, the deepest first, and how many it leaves."""
    if op in EFFECTS:
        takes, leaves = EFFECTS[op]
        return (KINDS.get(op, NUMBERS[:takes]), leaves)
    if op == "locals":
        return ("x" * arg, 0)
    if op == "run":
        return ("x" * arg[0] + "t", arg[0])
    if op == "catch":
        return ("x" * arg + "t", arg)
    return (KINDS.get(op, ""), 0)


def are_kinds(kinds, taken):
    """Whether the items are of these kinds."""
    for at, kind in enumerate(kinds):
        if kind != "x" and isinstance(taken[at], tuple) != (kind == "t"):
            return False
    return True


def leave_argument(machine, instruction, taken):
    """The acts lit, data."""
    return (instruction[1],)


def leave_token(machine, instruction, taken):
    """The act token."""
    return ((instruction[1],),)


def copy_top(machine, instruction, taken):
    """The act dup."""
    return (taken[0], taken[0])


def leave_nothing(machine, instruction, taken):
    """The act drop."""
    return ()


def exchange(machine, instruction, taken):
    """The act swap."""
    return (taken[1], taken[0])


def copy_second(machine, instruction, taken):
    """The act over."""
    return (taken[0], taken[1], taken[0])


def rotate(machine, instruction, taken):
    """The act rot."""
    return (taken[1], taken[2], taken[0])


def keep(machine, instruction, taken):
    """The act >r."""
    machine.calls[-1].own.append(taken[0])
    return ()


def last_own(machine):
    """The last own item of the last frame."""
    own = machine.calls[-1].own
    if not own:
        raise Thrown(-2)
    return own[-1]


def take_back(machine, instruction, taken):
    """The act r>."""
    item = last_own(machine)
    machine.calls[-1].own.pop()
    return (item,)


def look_back(machine, instruction, taken):
    """The act r@."""
    return (last_own(machine),)


def arithmetic(machine, instruction, taken):
    """The arithmetic acts."""
    try:
        return (result_of(machine.store.width, instruction[0], taken),)
    except ByZero:
        raise Thrown(-6) from None


def fetch_cell(machine, instruction, taken):
    """The act @."""
    try:
        return (machine.store.memory.cell(taken[0]),)
    except BadAddress:
        raise Thrown(-5) from None


def store_cell(machine, instruction, taken):
    """The act !."""
    try:
        machine.store.memory.put(taken[1], taken[0])
    except BadAddress:
        raise Thrown(-5) from None
    return ()


def fetch_byte(machine, instruction, taken):
    """The act c@."""
    memory = machine.store.memory
    try:
        return (memory[taken[0]],)
    except BadAddress:
        raise Thrown(-5) from None


def store_byte(machine, instruction, taken):
    """The act c!."""
    memory = machine.store.memory
    try:
        memory[taken[1]] = taken[0] & 255
    except BadAddress:
        raise Thrown(-5) from None
    return ()


def leave_length(machine, instruction, taken):
    """The act here."""
    return (len(machine.store.memory),)


def leave_cell_size(machine, instruction, taken):
    """The act cell."""
    return (machine.store.width // 8,)


def grow(machine, instruction, taken):
    """The act allot."""
    try:
        machine.store.memory.grow(taken[0])
    except NoRoom:
        raise Thrown(-7) from None
    return ()


def append_cell(machine, instruction, taken):
    """The act , which appends a cell."""
    try:
        machine.store.memory.add_cell(taken[0])
    except NoRoom:
        raise Thrown(-7) from None
    return ()


def append_byte(machine, instruction, taken):
    """The act c, which appends a byte."""
    try:
        machine.store.memory.add_byte(taken[0] & 255)
    except NoRoom:
        raise Thrown(-7) from None
    return ()


def print_number(machine, instruction, taken):
    """The act . which prints a number."""
    base = machine.store.memory.cell(0)
    if not is_base(base):
        raise Thrown(-17)
    machine.output += show(base, taken[0]) + " "
    return ()


def print_sign(machine, instruction, taken):
    """The act emit."""
    sign = printed(taken[0])
    if sign == "":
        raise Thrown(-10)
    machine.output += sign
    return ()


def print_text(machine, instruction, taken):
    """The act type."""
    try:
        text = machine.store.memory.text(taken[0], taken[1])
    except BadAddress:
        raise Thrown(-5) from None
    except BadCode:
        raise Thrown(-10) from None
    machine.output += text
    return ()


def take_from_feed(machine, instruction, taken):
    """The act ask."""
    if not machine.given:
        raise Halt("asks")
    return (machine.given.pop(0),)


def name_locals(machine, instruction, taken):
    """The act locals."""
    frame = machine.calls[-1]
    frame.locals = list(taken)
    return ()


def leave_local(machine, instruction, taken):
    """The act local."""
    return (machine.calls[-1].locals[instruction[1]],)


def set_local(machine, instruction, taken):
    """The act set."""
    machine.calls[-1].locals[instruction[1]] = taken[0]
    return ()


def throw(machine, instruction, taken):
    """The act throw."""
    if taken[0] != 0:
        raise Thrown(taken[0])
    return ()


ACTS = {
    "lit": leave_argument, "data": leave_argument, "token": leave_token,
    "dup": copy_top, "drop": leave_nothing, "swap": exchange, "over": copy_second, "rot": rotate,
    ">r": keep, "r>": take_back, "r@": look_back,
    "+": arithmetic, "-": arithmetic, "*": arithmetic, "/": arithmetic, "mod": arithmetic, "and": arithmetic,
    "or": arithmetic, "xor": arithmetic, "=": arithmetic, "<": arithmetic, "u<": arithmetic, "invert": arithmetic,
    "0=": arithmetic,
    "@": fetch_cell, "!": store_cell, "c@": fetch_byte, "c!": store_byte, "here": leave_length, "allot": grow,
    ",": append_cell, "c,": append_byte, "cell": leave_cell_size,
    ".": print_number, "emit": print_sign, "type": print_text, "ask": take_from_feed,
    "locals": name_locals, "local": leave_local, "set": set_local, "throw": throw,
}
