"""Blaming: the first word of a text that a reader reads otherwise than the host."""

from wordmint.cutting import Seal
from wordmint.errors import Refused, StillOpen
from wordmint.minting import mint, remint
from wordmint.reading import words_of
from wordmint.saving import save
from wordmint.session import Session


class Pair:
    """The host's session and the reader's sealed system and stack, behind the same lines."""

    def __init__(self, seal, session, system, pile):
        self.seal = seal
        self.session = session
        self.system = system
        self.pile = pile

    def read(self, line):
        """The pair behind one more line, and whether both sides differ there."""
        session = self.session.copy()
        outcome = session.read([line])
        reading = self.seal.read(self.system.copy(), self.pile, [line])
        if reading.kind == "done":
            pair = Pair(self.seal, session, reading.system, reading.machine.stack)
        else:
            pair = Pair(self.seal, session, self.system, self.pile)
        alike = outcome.kind == reading.kind and outcome.number == reading.number and pair.is_alike()
        return (pair, not alike)

    def is_alike(self):
        """Whether both sides have the same stack, and the same that came."""
        move = self.seal.move(self.system)
        if self.seal.all_leaks(self.system, move) or self.seal.open_leaks(self.system, move):
            return False
        if not all([move.has_item(item) for item in self.pile]):
            return False
        stack = tuple([move.item_of(item) for item in self.pile])
        return stack == self.session.stack and self.seal.cut_out(self.system, move) == self.session.system


def is_own(system, lines, reader):
    """Whether a reader of the system makes of the text that very system."""
    try:
        made = remint(system, lines, reader=reader)
    except Refused:
        return False
    except StillOpen:
        return False
    return made.system is not None and save(made.system) == save(system)


def blamed(pair, number, line):
    """The word to blame in a line behind which both sides differ."""
    told = (number, 0, "")
    text = (line,)
    words = list(words_of(text))
    for _, column, word in words:
        told = (number, column, word)
        _, differ = pair.read(line[:column + len(word)])
        if differ:
            return told
    return told


def blame(width, lines, *, reader="read"):
    """The first word of a text that the reader of its system reads otherwise than the host, or None."""
    system = mint(width, lines)
    seal = Seal(system, reader)
    pair = Pair(seal, Session(width), seal.sealed(system), ())
    if is_own(system, lines, reader):
        return None
    for number, line in enumerate(list(lines)):
        following, differ = pair.read(line)
        if differ:
            return blamed(pair, number, line)
        pair = following
    return None
