"""How the host reads a text into a system, word by word, and what a reading or a run ended in."""

from wordmint.definitions import add_row, compile_item, compile_word, innermost
from wordmint.errors import Thrown
from wordmint.machine import Machine
from wordmint.makers import full_actions
from wordmint.reading import Source
from wordmint.scanning import LOCAL, NUMBER, WORD, looked_up


class Reading:
    """A system that a text is read into, with a machine that runs its words on one stack, one after the other.

    The kind stays empty as long as nothing ended the reading.
    """

    def __init__(self, system, pile, given, most, data, frames):
        self.system = system
        # The words that are read tell what the machine runs; the first one stands there till then.
        self.machine = Machine(system, 0, stack=pile, feed=given, actions=full_actions(), data=data, frames=frames)
        self.most = most
        self.kind = ""
        self.number = 0
        self.line = 0
        self.column = 0

    def end(self, kind, number):
        """Ends the reading."""
        self.kind = kind
        self.number = number

    def run_word(self, number):
        """Runs a word with the steps that are left."""
        machine = self.machine
        machine.start(number)
        machine.go(self.most - machine.steps)
        if machine.kind == "runs":
            self.end("steps", 0)
        elif machine.kind != "done":
            self.end(machine.kind, machine.number)

    def run(self, number):
        """Runs a word, which ends the reading."""
        self.run_word(number)
        if self.kind == "":
            self.end("done", 0)

    def take_item(self, item):
        """Leaves an item on the stack, or appends it as a literal while compiling."""
        if self.system.compiling:
            compile_item(self.system, item)
        elif not self.machine.take(item):
            self.end("over", 0)

    def take_word(self):
        """Does what the caught word is there for; throws an error if there is nothing."""
        item, kind = looked_up(self.system)
        if kind == LOCAL:
            add_row(innermost(self.system), "local", item)
        elif kind == NUMBER:
            self.take_item(item)
        elif kind == WORD and self.system.compiling:
            compile_word(self.system, item[0])
        elif isinstance(item, tuple):
            self.run_word(item[0])
        else:
            raise Thrown(-13)

    def read(self, lines):
        """Reads words up to the end of the text, or up to one that ends the reading."""
        source = Source(lines)
        self.system.source = source
        while self.kind == "":
            self.line, self.column = source.start()
            word = source.word()
            if word == "":
                self.end("done", 0)
                return
            self.system.caught = word
            try:
                self.take_word()
            except Thrown as thrown:
                self.end("error", thrown.number)
