"""Sessions: a system and a stack, and texts that are read into them."""

from wordmint.cells import check_width
from wordmint.errors import Refused, Thrown
from wordmint.hosting import Reading
from wordmint.machine import Machine, check_rooms
from wordmint.makers import full_actions
from wordmint.reading import Source, check_text
from wordmint.system import System


class Outcome:
    """How a reading or a run ended. It is true if it is done."""

    def __init__(self, kind, number, line, column, output, steps):
        self.kind = kind
        self.number = number
        self.line = line
        self.column = column
        self.output = output
        self.steps = steps

    def __bool__(self):
        return bool(self.kind == "done")


class Session:
    """A system, a stack, and the rooms of the machines; the first two may be told at the beginning."""

    def __init__(self, width, *, data=64, frames=48, system=None, pile=()):
        check_width(width)
        check_rooms(data, frames, 0)
        self.system = System(width) if system is None else system
        self.data = data
        self.frames = frames
        self.pile = pile

    @classmethod
    def of(cls, system):
        """A session with a copy of a system and an empty stack."""
        return cls(system.width, system=system.copy())

    @property
    def stack(self):
        """The tuple of the items, the top last."""
        return self.pile

    def copy(self):
        """A session like this one that goes its own way."""
        return Session(self.system.width, data=self.data, frames=self.frames, system=self.system.copy(), pile=self.pile)

    def begun(self, feed, steps):
        """A reading into a copy of the system, which takes its place if the reading is done."""
        return Reading(self.system.copy(), self.pile, feed, steps, self.data, self.frames)

    def ended(self, reading, by_host):
        """The outcome of a reading; if it is done, its system and its stack become those of the session."""
        line = None
        column = None
        if reading.kind == "done":
            self.system = reading.system
            self.pile = reading.machine.stack
        elif by_host:
            line = reading.line
            column = reading.column
        machine = reading.machine
        return Outcome(reading.kind, reading.number, line, column, machine.output, machine.steps)

    def read(self, lines, *, feed=(), steps=20000):
        """Reads a text; the outcome."""
        text = check_text(lines)
        reading = self.begun(feed, steps)
        reading.read(text)
        return self.ended(reading, True)

    def __call__(self, lines):
        """Reads a text; the outcome."""
        return self.read(lines)

    def demand(self, lines):
        """Reads a text; its output, or Refused if it is not done."""
        outcome = self.read(lines)
        if outcome.kind != "done":
            raise Refused(outcome.kind) from Thrown(outcome.number)
        return outcome.output

    def reader_machine(self, reader, lines, *, feed=()):
        """The machine by which read_by would read, at its beginning, on a copy of the system."""
        number = self.system.number_of(reader)
        text = check_text(lines)
        system = self.system.copy()
        system.source = Source(text)
        return Machine(system, number, stack=self.pile, feed=feed, actions=full_actions(), data=self.data,
                       frames=self.frames)

    def read_by(self, reader, lines, *, feed=(), steps=20000):
        """Reads a text by a word of the system; the outcome."""
        number = self.system.number_of(reader)
        text = check_text(lines)
        reading = self.begun(feed, steps)
        reading.system.source = Source(text)
        reading.run(number)
        return self.ended(reading, False)

    def run(self, name, *, feed=(), steps=20000):
        """Runs a word on the stack; the outcome."""
        number = self.system.number_of(name)
        reading = self.begun(feed, steps)
        reading.run(number)
        return self.ended(reading, False)
