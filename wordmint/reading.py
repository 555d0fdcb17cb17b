"""Signs, lines and texts, and the source that words are read from."""

from wordmint.errors import BadText, NoEnd

SIGNS = " !\"#$&'()*+,-./0123456789:;<=>?@ABCDEFGHIJKLMNOPQRSTUVWXYZ[\\]^_`abcdefghijklmnopqrstuvwxyz{|}~"
FEED = 10
MOST_SIGNS = 200
MOST_LINES = 200
LONGEST_NAME = 16


def printed(code):
    """The character of a printable code, or an empty string."""
    if code == FEED:
        return "\n"
    if code < 32 or code > 126 or code == 37:
        return ""
    return SIGNS[code - 32] if code < 37 else SIGNS[code - 33]


def has_signs_alone(text):
    """Whether every character of a string is a sign."""
    return text.isascii() and text.isprintable() and text.translate({37: None}) == text


def is_line(thing):
    """Whether it is a string of at most 200 signs."""
    return isinstance(thing, str) and len(thing) <= MOST_SIGNS and has_signs_alone(thing)


def is_name(thing):
    """Whether it is a name that a word can be found by."""
    return isinstance(thing, str) and 1 <= len(thing) <= LONGEST_NAME and " " not in thing and has_signs_alone(thing)


def check_text(lines):
    """The tuple of the lines of a text; BadText if it is none."""
    if not isinstance(lines, (list, tuple)) or len(lines) > MOST_LINES:
        raise BadText(-1)
    for number, line in enumerate(lines):
        if not is_line(line):
            raise BadText(number)
    return tuple(lines)


class Source:
    """A text that is read word by word; it stands at a line and a column."""

    def __init__(self, lines):
        self._lines = check_text(lines)
        self.line = 0
        self.column = 0

    def start(self):
        """Where the next word begins, or, if none is left, where the source stands behind the last line."""
        line = self.line
        column = self.column
        while line < len(self._lines):
            text = self._lines[line]
            left = len(text[column:].lstrip(" "))
            if left > 0:
                return (line, len(text) - left)
            line += 1
            column = 0
        return (line, 0)

    def _word_at(self, line, column):
        """The word that begins there; an empty string behind the last line."""
        if line == len(self._lines):
            return ""
        return self._lines[line][column:].partition(" ")[0]

    def peek(self):
        """The next word, which is not read; an empty string if none is left."""
        line, column = self.start()
        return self._word_at(line, column)

    def word(self):
        """Reads the next word; an empty string if none is left."""
        self.line, self.column = self.start()
        word = self._word_at(self.line, self.column)
        if word != "":
            self.column = min(self.column + len(word) + 1, len(self._lines[self.line]))
        return word

    def _left(self):
        """What is left of the present line; nothing behind the last one."""
        if self.line == len(self._lines):
            return ""
        return self._lines[self.line][self.column:]

    def parse(self, sign):
        """Takes the signs up to the next such sign, which is passed too."""
        left = self._left()
        end = left.find(sign)
        if end < 0:
            raise NoEnd(self.column)
        self.column += end + 1
        return left[:end]

    def rest(self):
        """Takes the rest of the line."""
        left = self._left()
        self.column += len(left)
        return left

    def where(self):
        """The line and the column at which the source stands."""
        return (self.line, self.column)

    def text(self):
        """The tuple of all lines."""
        return self._lines

    def ended(self):
        """Whether no word is left."""
        return self.start()[0] == len(self._lines)

    def copy(self):
        """A source of the same text that stands at the same place."""
        other = Source(())
        other._lines = self._lines
        other.line = self.line
        other.column = self.column
        return other

    # The first text has a name of its own, as every method with a star has a plain first parameter.
    @staticmethod
    def joined(first=(), *texts):
        """One tuple of all lines of the texts."""
        lines = list(first)
        for text in texts:
            lines.extend(text)
        return tuple(lines)


def words_of(lines):
    """Yields each word of a text, with the line and the column at which it begins."""
    source = Source(lines)
    while not source.ended():
        line, column = source.start()
        yield (line, column, source.word())
