"""The forms of instructions and bodies, the effects of the ops, and words."""

from wordmint.cells import is_between, is_integer, is_number
from wordmint.errors import BadBody

LONGEST_BODY = 7000
HIGHEST_ADDRESS = 2048
MOST_LOCALS = 8
MOST_TAKEN = 8
LAST_OPS = ("exit", "goto", "jump")
WORD_OPS = ("token", "call", "jump", "is")
PLACE_OPS = ("goto", "unless")
LOCAL_OPS = ("local", "set")
ALONE_OPS = ("recurse", "perform")

BUILDING = (
    "word", "parse", "pad@", "pad,", "lookup", "'", "compile", "literal", "address", "local,", "state", "[", "]",
    ":", ";", "[:", ";]", "self,", "run,", "catch,", "is,", "to,", "{", "postpone", "immediate", "create", "behave",
    "defer", "marker", "<mark", "<goto", "<unless", "goto>", "unless>", ">land", "new-list", "also", "into",
    "previous",
)

EFFECTS = {
    "lit": (0, 1), "data": (0, 1), "token": (0, 1),
    "dup": (1, 2), "drop": (1, 0), "swap": (2, 2), "over": (2, 3), "rot": (3, 3),
    ">r": (1, 0), "r>": (0, 1), "r@": (0, 1),
    "+": (2, 1), "-": (2, 1), "*": (2, 1), "/": (2, 1), "mod": (2, 1), "and": (2, 1), "or": (2, 1), "xor": (2, 1),
    "=": (2, 1), "<": (2, 1), "u<": (2, 1), "invert": (1, 1), "0=": (1, 1),
    "@": (1, 1), "!": (2, 0), "c@": (1, 1), "c!": (2, 0), "here": (0, 1), "allot": (1, 0), ",": (1, 0), "c,": (1, 0),
    "cell": (0, 1), ".": (1, 0), "emit": (1, 0), "type": (2, 0), "ask": (0, 1),
    "local": (0, 1), "set": (1, 0), "goto": (0, 0), "unless": (1, 0), "is": (1, 0), "exit": (0, 0), "throw": (1, 0),
    "word": (0, 1), "parse": (1, 1), "pad@": (1, 1), "pad,": (0, 2), "lookup": (0, 2), "'": (0, 1),
    "compile": (1, 0), "literal": (1, 0), "address": (1, 0), "local,": (1, 0), "state": (0, 1),
    "[": (0, 0), "]": (0, 0), ":": (0, 0), ";": (0, 0), "[:": (0, 0), ";]": (0, 0), "self,": (0, 0),
    "run,": (0, 0), "catch,": (0, 0), "is,": (0, 0), "to,": (0, 0), "{": (0, 0), "postpone": (0, 0),
    "immediate": (0, 0), "create": (0, 0), "behave": (1, 0), "defer": (0, 0), "marker": (0, 0),
    "<mark": (0, 1), "<goto": (1, 0), "<unless": (1, 0), "goto>": (0, 1), "unless>": (0, 1), ">land": (1, 0),
    "new-list": (0, 1), "also": (1, 0), "into": (1, 0), "previous": (0, 0),
}


def fits(effect, wanted):
    """Whether a word of this effect does where the wanted one is due."""
    if effect is None:
        return False
    return effect[0] <= wanted[0] and effect[1] - effect[0] == wanted[1] - wanted[0]


def both(first, second):
    """The effect of the second word behind the first one."""
    return (first[0] + max(0, second[0] - first[1]), second[1] + max(0, first[1] - second[0]))


def is_effect(thing):
    """Whether it is a pair of integers from 0 to 8."""
    return isinstance(thing, tuple) and len(thing) == 2 and all([is_between(part, 0, MOST_TAKEN) for part in thing])


def is_zero(thing):
    """Whether it is the integer 0."""
    return is_integer(thing) and thing == 0


def landings(body):
    """The places to which a goto or unless leads, ascending."""
    return tuple(sorted({arg for op, arg in body if op in PLACE_OPS}))


def locals_of(body):
    """How many locals the body names."""
    op, arg = body[0]
    return arg if op == "locals" else 0


def is_argument(width, body, number, op, arg):
    """Whether an instruction behind a good first one, or that one, may have this op and this argument."""
    if op == "lit":
        return is_number(width, arg)
    if op == "data":
        return is_between(arg, 0, HIGHEST_ADDRESS)
    if op in WORD_OPS:
        return is_between(arg, 0, number - 1)
    if op in PLACE_OPS:
        return is_between(arg, 0, len(body) - 1)
    if op in LOCAL_OPS:
        return is_between(arg, 0, locals_of(body) - 1)
    if op == "locals":
        return is_between(arg, 1, MOST_LOCALS)
    if op == "run":
        return is_effect(arg)
    if op == "catch":
        return is_between(arg, 0, MOST_TAKEN)
    return (op in EFFECTS or op in ALONE_OPS) and is_zero(arg)


def is_good_at(width, body, number, place):
    """Whether the instruction at a place is good, if those ahead of it are."""
    instruction = body[place]
    if not isinstance(instruction, tuple) or len(instruction) != 2:
        return False
    op, arg = instruction
    if not isinstance(op, str) or (op == "locals" and place > 0):
        return False
    if place == len(body) - 1 and op not in LAST_OPS:
        return False
    return is_argument(width, body, number, op, arg)


def check_body(width, body, number):
    """Raises BadBody unless it is a body for the word with this number."""
    if not isinstance(body, tuple) or len(body) == 0:
        raise BadBody(0)
    if len(body) > LONGEST_BODY:
        raise BadBody(LONGEST_BODY)
    for place in range(len(body)):
        if not is_good_at(width, body, number, place):
            raise BadBody(place)


class Word:
    """A word of a store. It is never changed; a store exchanges it for another one."""

    def __init__(self, name, home, kind, immediate, body, declared, verdict,
                 *, address=None, behaviour=None, action=None, keeps=None):
        self.name = name
        self.home = home
        self.kind = kind
        self.immediate = immediate
        self.body = body
        self.declared = declared
        self.verdict = verdict
        self.address = address
        self.behaviour = behaviour
        self.action = action
        self.keeps = keeps

    @property
    def effect(self):
        """The pair of the summary, or None for a word that is refused."""
        return self.verdict.effect

    def plain(self):
        """All attributes but the verdict, which hangs on the other words."""
        return (self.name, self.home, self.kind, self.immediate, self.body, self.declared,
                self.address, self.behaviour, self.action, self.keeps)
