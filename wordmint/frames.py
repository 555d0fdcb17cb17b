"""The frames of a machine, and how an instruction tells that it cannot be done now."""

from wordmint.errors import Thrown


class Halt(Exception):
    """The next instruction cannot be done: asks, over or deep. It is no error of the machine."""

    def __init__(self, kind):
        self.kind = kind


class Frame:
    """A word that is being run: its number, the place, own items, locals, and what is kept for a catch, or None.

    In an engine a frame may run by code: then the place is that of a row, and the cache tells what registers hold.
    """

    def __init__(self, number, kept=None, code=None):
        self.number = number
        self.place = 0
        self.own = []
        self.locals = []
        self.kept = kept
        self.code = code
        self.cache = {}

    def view(self):
        """The frame as a tuple."""
        return (self.number, self.place, tuple(self.own), tuple(self.locals), self.kept)

    def copy(self):
        """A frame like this one that goes its own way."""
        other = Frame(self.number, self.kept, self.code)
        other.place = self.place
        other.own = list(self.own)
        other.locals = list(self.locals)
        other.cache = dict(self.cache)
        return other

    def need_no_own(self):
        """Throws an error if own items are left."""
        if self.own:
            raise Thrown(-3)

    def run_body(self):
        """Runs by the body from now on."""
        self.code = None
        self.cache = {}

    def forget_registers(self):
        """Registers hold nothing from now on."""
        self.cache = {}

    def become(self, number, code):
        """Goes on as a word at its first place; what is kept stays."""
        self.number = number
        self.place = 0
        self.locals = []
        self.code = code
        self.cache = {}
