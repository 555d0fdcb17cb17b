"""Blocks: eight pieces of text, each of at most eight lines."""

from wordmint.cells import is_between
from wordmint.errors import BadBlock, BadText
from wordmint.reading import check_text

COUNT = 8
MOST_LINES = 8


def check_block(number):
    """Raises BadBlock unless there is a block with this number."""
    if not is_between(number, 0, COUNT - 1):
        raise BadBlock(number)


def check_piece(lines):
    """The tuple of the lines of a block; BadText if it is none."""
    if isinstance(lines, (list, tuple)) and len(lines) > MOST_LINES:
        raise BadText(-1)
    return check_text(lines)


class Blocks:
    """Eight pieces of text with the numbers from 0 to 7, at first all empty."""

    def __init__(self):
        self._pieces = [()] * COUNT
        # The ascending numbers of the blocks that are not empty.
        self._full = []

    def __getitem__(self, at):
        check_block(at)
        return self._pieces[at]

    def __setitem__(self, at, worth):
        check_block(at)
        self._pieces[at] = check_piece(worth)
        self._full = [number for number in range(COUNT) if self._pieces[number] != ()]

    def __iter__(self):
        return iter(self._full)

    def __contains__(self, x):
        return is_between(x, 0, COUNT - 1) and self._pieces[x] != ()

    def __eq__(self, other):
        return isinstance(other, Blocks) and self._pieces == other._pieces

    def fill(self, lines, start=0):
        """Puts a text, cut, into the blocks from a number on; the tuple of the numbers that it used."""
        pieces = cut_text(check_text(lines))
        if not pieces:
            return ()
        check_block(start)
        numbers = tuple(range(start, start + len(pieces)))
        for number in numbers:
            check_block(number)
        for number, piece in zip(list(numbers), list(pieces)):
            self[number] = piece
        return numbers

    def text(self, *numbers):
        """The tuple of the lines of these blocks, in this order."""
        lines = []
        for number in numbers:
            check_block(number)
            lines.extend(self._pieces[number])
        return tuple(lines)

    @staticmethod
    def cut(lines):
        """The pieces of a text, a list of tuples."""
        return cut_text(lines)


def cut_text(lines):
    """The pieces of eight lines each that a text is cut into; the last one has what is left."""
    return [tuple(lines[at:at + MOST_LINES]) for at in range(0, len(lines), MOST_LINES)]
