"""Minting: systems that the host makes of a text, and that their own readers make of it again."""

from wordmint.cutting import Seal
from wordmint.errors import MintError, Refused, Thrown
from wordmint.reading import check_text
from wordmint.saving import save
from wordmint.session import Session
from wordmint.system import need_nothing_open

MOST_TURNS = 3


def need_good(system, pile, kind, number):
    """Raises Refused or StillOpen unless a reading is done, leaves no item, and no definition is open behind it."""
    if kind != "done":
        raise Refused(kind) from Thrown(number)
    if len(pile) > 0:
        raise Refused("stack")
    need_nothing_open(system)


def mint(width, lines):
    """The system that the host makes of a text."""
    session = Session(width)
    outcome = session.read(lines)
    need_good(session.system, session.stack, outcome.kind, outcome.number)
    return session.system


class Reminted:
    """A system that was made again, or what it still refers to in the one that made it. It is true without leaks."""

    def __init__(self, system, leaks):
        self.system = system
        self.leaks = leaks

    def __bool__(self):
        return bool(self.leaks == ())


def remint(system, lines, *, reader="read"):
    """The system that a reader of a system makes of a text."""
    seal = Seal(system, reader)
    sealed = seal.sealed(system)
    reading = seal.read(sealed, (), check_text(lines))
    need_good(sealed, reading.machine.stack, reading.kind, reading.number)
    move = seal.move(sealed)
    leaks = tuple(seal.all_leaks(sealed, move))
    return Reminted(None if leaks else seal.cut_out(sealed, move), leaks)


def minted(width, lines):
    """The system that the host makes of a text, or None if it cannot be made."""
    try:
        return mint(width, lines)
    except MintError:
        return None


def reminted(system, lines, reader):
    """What the reader of a system makes of a text, or None if it cannot be made."""
    try:
        return remint(system, lines, reader=reader)
    except MintError:
        return None


def rounds(width, lines, *, reader="read"):
    """Yields the images of the turns of a text, up to one like the one ahead; leaks come instead of an image."""
    system = minted(width, lines)
    if system is None:
        return
    image = save(system)
    yield list(image)
    for _ in range(MOST_TURNS):
        made = reminted(system, lines, reader)
        if made is None:
            return
        if made.leaks:
            yield made.leaks
            return
        system = made.system
        before = image
        image = save(system)
        yield list(image)
        if image == before:
            return


def settles(width, lines, *, reader="read"):
    """The turn at which a text settles, or None if it does not within the turns that are looked at."""
    images = list(rounds(width, lines, reader=reader))
    if len(images) < 2 or images[-1] != images[-2]:
        return None
    return len(images) - 2
