"""Systems: stores with the kernel words, lists, open definitions, and what is being read."""

from wordmint.effects import check
from wordmint.errors import StillOpen, Unknown
from wordmint.forms import Word
from wordmint.lists import Lists, find
from wordmint.reading import Source
from wordmint.stores import Store, add_deferred, add_plain, are_alike

KERNEL_HOME = 0
KERNEL = (
    "dup", "drop", "swap", "over", "rot", ">r", "r>", "r@", "+", "-", "*", "/", "mod", "and", "or", "xor", "invert",
    "=", "<", "u<", "0=", "@", "!", "c@", "c!", "here", "allot", ",", "c,", "cell", ".", "emit", "type", "ask", "exit",
    "throw", "perform", "base", "word", "parse", "pad@", "pad,", "lookup", "'", "compile", "literal", "address",
    "local,", "state", "[", "]", ":", ";", "[:", ";]", "recurse", "run", "catch", "is", "to", "{", "postpone",
    "immediate", "create", "behave", "defer", "marker", "<mark", "<goto", "<unless", "goto>", "unless>", ">land",
    "new-list", "also", "previous", "into",
)
KERNEL_OPS = {"base": "data", "recurse": "self,", "run": "run,", "catch": "catch,", "is": "is,", "to": "to,"}
KERNEL_NOW = ("[", ";", "[:", ";]", "recurse", "run", "catch", "is", "to", "{", "postpone")


def kernel_words():
    """The words that every system begins with."""
    words = []
    for name in KERNEL:
        body = ((KERNEL_OPS.get(name, name), 0), ("exit", 0))
        words.append(Word(name, KERNEL_HOME, "kernel", name in KERNEL_NOW, body, None, check([], body)))
    return words


class Definition:
    """An open definition: a word that is being made."""

    def __init__(self, name, declared):
        self.name = name
        self.declared = declared
        self.rows = []
        self.names = []
        self.marks = []
        self.gaps = []

    def plain(self):
        """All attributes, as a tuple."""
        return (self.name, self.declared, tuple(self.rows), tuple(self.names), tuple(self.marks), tuple(self.gaps))

    def copy(self):
        """A definition like this one that goes its own way."""
        other = Definition(self.name, self.declared)
        other.rows = list(self.rows)
        other.names = list(self.names)
        other.marks = list(self.marks)
        other.gaps = list(self.gaps)
        return other


class System(Store):
    """A store with the kernel words, lists, open definitions, the mark whether it is compiling, and a source."""

    def __init__(self, width, *, like=None, words=None):
        super().__init__(width, like=like, words=kernel_words() if words is None else words)
        if like is None:
            self.lists = Lists()
            self.opened = []
            self.compiling = False
            self.source = Source(())
            self.caught = ""
        else:
            self.lists = like.lists.copy()
            self.opened = [definition.copy() for definition in list(like.opened)]
            self.compiling = like.compiling
            self.source = like.source.copy()
            self.caught = like.caught

    def find(self, name):
        """The number of the word that is found by this name, or None."""
        return find(self.words, self.lists.order, name)

    def number_of(self, name):
        """The number of the word that is found by this name."""
        number = self.find(name)
        if number is None:
            raise Unknown(name)
        return number

    def __eq__(self, other):
        return (isinstance(other, System) and are_alike(self, other) and self.lists == other.lists
                and [definition.plain() for definition in self.opened]
                == [definition.plain() for definition in other.opened]
                and self.compiling == other.compiling)

    def copy(self):
        """A system of the same words that goes its own way."""
        return self.with_words(list(self.words))

    def with_words(self, words):
        """A system with these words, which are not copied, and copies of all else."""
        return System(self.width, like=self, words=words)

    def define(self, body, *, name="", declared=None, immediate=False):
        """Adds a plain word to the list for new words; its number."""
        return add_plain(self, self.lists.into, body, name, declared, immediate)

    def defer(self, declared, *, name="", action=None):
        """Adds a deferred word to the list for new words; its number."""
        return add_deferred(self, self.lists.into, declared, name, action)


def need_nothing_open(store):
    """Raises StillOpen with the outermost open definition, if it is a system that has one."""
    if isinstance(store, System) and store.opened:
        raise StillOpen(store.opened[0].name)
