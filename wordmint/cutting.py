"""Reading into a sealed list of a system, and cutting out what came there."""

from wordmint.errors import Unknown
from wordmint.forms import WORD_OPS
from wordmint.hosting import Reading
from wordmint.lists import Lists, find
from wordmint.memory import Memory
from wordmint.moving import Move
from wordmint.reading import Source
from wordmint.system import KERNEL, KERNEL_HOME, System

OWN_LIST = 1
NO_NUMBER = -1
STEPS = 20000
DATA = 64
FRAMES = 48


class Seal:
    """What was there when a system was sealed: the count of words and of bytes, the first new list, the reader."""

    def __init__(self, system, reader):
        number = find(system.words, (OWN_LIST,), reader)
        if number is None:
            raise Unknown(reader)
        self.reader = number
        self.count = len(system.words)
        self.length = len(system.memory)
        self.home = system.lists.count

    def sealed(self, system):
        """A copy of the system with a new list, which alone stands in the order with that of the kernel."""
        copy = system.copy()
        copy.lists.new()
        copy.lists.order = (self.home, KERNEL_HOME)
        copy.lists.begin(self.home)
        return copy

    def read(self, system, pile, lines):
        """The reading of a text, which is done, into a sealed system by the reader, from a stack."""
        reading = Reading(system, pile, (), STEPS, DATA, FRAMES)
        reading.system.source = Source(lines)
        reading.run(self.reader)
        return reading

    def move(self, system):
        """Where what came goes when it is cut out."""
        numbers = {number: number for number in range(len(KERNEL))}
        for number in range(self.count, len(system.words)):
            numbers[number] = number - self.count + len(KERNEL)
        homes = {home: home - self.home + OWN_LIST for home in range(self.home, system.lists.count)}
        homes[KERNEL_HOME] = KERNEL_HOME
        return Move(numbers, homes, self.length, self.length - system.width // 8)

    def row_leaks(self, move, rows, number):
        """The leaks of instructions; the number is that of their word as it is then."""
        leaks = []
        for op, arg in rows:
            if op in WORD_OPS and arg not in move.numbers:
                leaks.append(("word", number, arg))
            elif op == "data" and 0 < arg < self.length:
                leaks.append(("data", number, arg))
        return leaks

    def word_leaks(self, move, word, number):
        """The leaks of a word; the number is the one that it gets."""
        leaks = []
        if word.home >= 0 and word.home not in move.lists:
            leaks.append(("list", number, word.home))
        if word.kind == "marker":
            leaks.append(("marker", number, NO_NUMBER))
        leaks.extend(self.row_leaks(move, word.body, number))
        if word.action is not None and word.action not in move.numbers:
            leaks.append(("word", number, word.action))
        return leaks

    def all_leaks(self, system, move):
        """All that what came still refers to though it is cut off, in order."""
        leaks = []
        for number in range(self.count, len(system.words)):
            leaks.extend(self.word_leaks(move, system.words[number], move.numbers[number]))
        for home in (*system.lists.order, system.lists.into):
            if home not in move.lists:
                leaks.append(("order", NO_NUMBER, home))
        return leaks

    def open_leaks(self, system, move):
        """The same for open definitions."""
        leaks = []
        for definition in list(system.opened):
            leaks.extend(self.row_leaks(move, definition.rows, NO_NUMBER))
        return leaks

    def cut_out(self, system, move):
        """What came, as a system of its own; nothing of it may be a leak."""
        younger = [move.word_of(word, None) for word in system.words[self.count:]]
        fresh = System(system.width, words=[*system.words[:len(KERNEL)], *younger])
        lists = system.lists
        order = tuple([move.home_of(home) for home in lists.order])
        fresh.lists = Lists(len(move.lists), order, move.home_of(lists.into))
        row = system.memory.all_bytes()
        fresh.memory = Memory.of(system.width, (*row[:system.width // 8], *row[self.length:]))
        fresh.opened = [moved(definition, move) for definition in list(system.opened)]
        fresh.compiling = system.compiling
        return fresh


def moved(definition, move):
    """An open definition with its words and addresses as they are then."""
    other = definition.copy()
    other.rows = move.rows_of(definition.rows)
    return other
