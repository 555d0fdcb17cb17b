"""The building acts that read the source and look words up; names, digits and effects in a text."""

from wordmint.cells import is_base, read_number
from wordmint.errors import NoEnd, NoRoom, Thrown
from wordmint.forms import MOST_TAKEN
from wordmint.reading import FEED, is_name, printed

DIGITS = "012345678"
NOTHING = 0
WORD = 1
IMMEDIATE = -1
LOCAL = 2
NUMBER = 3


def caught_word(system):
    """Reads a word, which becomes caught."""
    system.caught = system.source.word()
    return system.caught


def new_name(system):
    """Reads a name for a new word."""
    name = system.source.word()
    if not is_name(name):
        raise Thrown(-14)
    return name


def found_word(system):
    """Reads a word, which becomes caught, and finds it; its number."""
    name = caught_word(system)
    if name == "":
        raise Thrown(-14)
    number = system.find(name)
    if number is None:
        raise Thrown(-13)
    return number


def digits(system, count):
    """Reads so many words, each a digit from 0 to 8; their list."""
    words = []
    for _ in range(count):
        words.append(system.source.word())
    for word in words:
        if len(word) != 1 or word not in DIGITS:
            raise Thrown(-15)
    return [int(word) for word in words]


def effect_in(text):
    """The effect that the text between the brackets tells, or None for a remark."""
    words = text.split()
    if "--" not in words:
        return None
    takes = words.index("--")
    leaves = len(words) - takes - 1
    if words.count("--") > 1 or takes > MOST_TAKEN or leaves > MOST_TAKEN:
        raise Thrown(-15)
    return (takes, leaves)


def said_effect(system):
    """Reads an effect, if the next word of the text begins one; None for none and for a remark."""
    if system.source.peek() != "(":
        return None
    system.source.word()
    try:
        return effect_in(system.source.parse(")"))
    except NoEnd:
        raise Thrown(-15) from None


def looked_up(system):
    """What the caught word is: an item and a kind."""
    name = system.caught
    if system.compiling and name in system.opened[-1].names:
        return (system.opened[-1].names.index(name), LOCAL)
    number = system.find(name)
    if number is not None:
        return ((number,), IMMEDIATE if system.words[number].immediate else WORD)
    base = system.memory.cell(0)
    if not is_base(base):
        raise Thrown(-17)
    value = read_number(system.width, base, name)
    return (0, NOTHING) if value is None else (value, NUMBER)


def read_word(machine, instruction, taken):
    """The act word."""
    return (len(caught_word(machine.store)),)


def parse(machine, instruction, taken):
    """The act parse."""
    system = machine.store
    sign = printed(taken[0])
    if sign == "":
        raise Thrown(-10)
    if taken[0] == FEED:
        system.caught = system.source.rest()
    else:
        try:
            system.caught = system.source.parse(sign)
        except NoEnd:
            raise Thrown(-15) from None
    return (len(system.caught),)


def code_in_caught(machine, instruction, taken):
    """The act pad@."""
    caught = machine.store.caught
    if taken[0] < 0 or taken[0] >= len(caught):
        raise Thrown(-5)
    return (ord(caught[taken[0]]),)


def append_caught(machine, instruction, taken):
    """The act pad, which appends the codes of caught."""
    memory = machine.store.memory
    address = len(memory)
    codes = [ord(sign) for sign in machine.store.caught]
    try:
        memory.grow(len(codes))
    except NoRoom:
        raise Thrown(-7) from None
    for place, code in enumerate(list(codes)):
        memory[address + place] = code
    return (address, len(codes))


def look_up(machine, instruction, taken):
    """The act lookup."""
    return looked_up(machine.store)


def leave_found(machine, instruction, taken):
    """The act ' which leaves the token of a word that it reads."""
    return ((found_word(machine.store),),)


SCANNING = {
    "word": read_word, "parse": parse, "pad@": code_in_caught, "pad,": append_caught, "lookup": look_up,
    "'": leave_found,
}
