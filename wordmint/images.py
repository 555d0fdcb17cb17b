"""The lines of images: how numbers, names, effects, bodies, lists and bytes are written in them, and read again."""

from wordmint.errors import BadBody, BadImage
from wordmint.forms import LOCAL_OPS, PLACE_OPS, WORD_OPS, check_body
from wordmint.lists import LONGEST_ORDER, MOST_LISTS
from wordmint.memory import LONGEST
from wordmint.reading import is_name

HEX_DIGITS = "0123456789abcdef"
DECIMAL_DIGITS = "0123456789"
# No number that is due anywhere but the count of steps has more than ten digits.
MOST_DIGITS = 1000
LEAST_LISTS = 2
BYTES_IN_LINE = 32
PAIR_OPS = ("run",)
SINGLE_OPS = ("lit", "data", "locals", "catch")
NOTHING = "-"
EFFECT_DIGITS = "012345678"


def integer_of(word):
    """The integer that a word is in decimal, without leading zeros; None if it is none."""
    digits = word[1:] if word.startswith("-") else word
    if digits == "" or len(digits) > MOST_DIGITS or not all([sign in DECIMAL_DIGITS for sign in digits]):
        return None
    if digits.startswith("0") and word != "0":
        return None
    return int(word)


def hex_of(row):
    """Two digits for each byte."""
    return "".join([f"{byte:02x}" for byte in row])


def bytes_in(word):
    """The bytes that a word has two digits each for; None if it is no such word."""
    if len(word) & 1 == 1 or not all([sign in HEX_DIGITS for sign in word]):
        return None
    digits = [HEX_DIGITS.index(sign) for sign in word]
    return tuple([16 * digits[at] + digits[at + 1] for at in range(0, len(digits), 2)])


def spelled(words):
    """A line of words, which are strings and integers."""
    return " ".join([str(word) for word in words])


def optional(number):
    """The word for a number or None."""
    return NOTHING if number is None else str(number)


def spelled_effect(declared):
    """The word for a declared effect or None."""
    return NOTHING if declared is None else f"{declared[0]}:{declared[1]}"


def arguments(op):
    """How many numbers stand behind an op in a line."""
    if op in PAIR_OPS:
        return 2
    return 1 if op in WORD_OPS or op in PLACE_OPS or op in LOCAL_OPS or op in SINGLE_OPS else 0


def spelled_rows(rows):
    """The words for instructions."""
    words = []
    for op, arg in rows:
        words.append(op)
        count = arguments(op)
        if count == 1:
            words.append(str(arg))
        elif count == 2:
            words.extend([str(part) for part in arg])
    return words


def lists_line(count, into, order):
    """The line for how many lists there are, the one for new words, and the order."""
    return spelled(["lists", count, into, *order])


def bytes_lines(row):
    """The lines for the bytes of a memory."""
    return ["bytes " + hex_of(row[at:at + BYTES_IN_LINE]) for at in range(0, len(row), BYTES_IN_LINE)]


class Lines:
    """The lines of an image, and the number of the one that is looked at."""

    def __init__(self, lines):
        self.texts = list(lines) if isinstance(lines, (list, tuple)) else []
        self.line = 0

    def must(self, holds):
        """Raises BadImage with the line that is looked at, unless this holds."""
        if not holds:
            raise BadImage(self.line)

    def line_ahead(self, count):
        """The line so many lines further on; an empty string if it is missing or no string."""
        line = self.line + count
        if line >= len(self.texts) or not isinstance(self.texts[line], str):
            return ""
        return self.texts[line]

    def present(self):
        """The line that is looked at; an empty string if it is missing or no string."""
        return self.line_ahead(0)

    def first_word(self):
        """The first word of the line."""
        return self.present().partition(" ")[0]

    def pass_line(self):
        """Goes on to the next line."""
        self.line += 1

    def pass_whole(self, line):
        """Passes a line that must be just this one."""
        self.must(self.present() == line)
        self.pass_line()

    def words_of_line(self, verb):
        """The words behind the first word of the line, which must be this verb."""
        words = self.present().split(" ")
        self.must(words[0] == verb)
        return words[1:]

    def counted(self, verb, count):
        """The words behind the first word of the line, which must be so many."""
        words = self.words_of_line(verb)
        self.must(len(words) == count)
        return words

    def text_behind(self, verb):
        """What stands behind the first word of the line and one blank."""
        text = self.present()
        self.must(text.startswith(verb + " "))
        return text[len(verb) + 1:]

    def number_in(self, word, low, high):
        """The integer from low to high that a word is; high is None if there is no bound."""
        number = integer_of(word)
        self.must(number is not None and number >= low and (high is None or number <= high))
        return number

    def optional_in(self, word, high):
        """The integer from 0 on that a word is, or None for a word that stands for nothing."""
        return None if word == NOTHING else self.number_in(word, 0, high)

    def name_in(self, word):
        """The name that a word tells."""
        self.must(word == "=" or (word.startswith("=") and is_name(word[1:])))
        return word[1:]

    def choice_in(self, word, words):
        """The place of a word among these words."""
        self.must(word in words)
        return words.index(word)

    def effect_in(self, word):
        """The declared effect that a word tells, or None."""
        if word == NOTHING:
            return None
        self.must(len(word) == 3 and word[1] == ":" and word[0] in EFFECT_DIGITS and word[2] in EFFECT_DIGITS)
        return (int(word[0]), int(word[2]))

    def rows_in(self, words):
        """The tuple of the instructions that words tell, whatever their arguments may be."""
        rows = []
        at = 0
        while at < len(words):
            op = words[at]
            count = arguments(op)
            numbers = [integer_of(word) for word in words[at + 1:at + 1 + count]]
            self.must(len(numbers) == count and None not in numbers)
            arg = numbers[0] if count == 1 else 0
            rows.append((op, tuple(numbers)) if count == 2 else (op, arg))
            at += count + 1
        return tuple(rows)

    def body_in(self, words, width, number):
        """The body for a word of this number that words tell."""
        rows = self.rows_in(words)
        try:
            check_body(width, rows, number)
        except BadBody:
            raise BadImage(self.line) from None
        return rows

    def pass_lists(self):
        """Passes a line of lists; its (count, into, order)."""
        words = self.words_of_line("lists")
        self.must(3 <= len(words) <= LONGEST_ORDER + 2)
        count = self.number_in(words[0], LEAST_LISTS, MOST_LISTS)
        into = self.number_in(words[1], 0, count - 1)
        order = tuple([self.number_in(word, 0, count - 1) for word in words[2:]])
        self.pass_line()
        return (count, into, order)

    def pass_bytes(self, width):
        """Passes the lines of bytes of a memory; the tuple of the bytes."""
        row = ()
        size = BYTES_IN_LINE
        while row == () or (size == BYTES_IN_LINE and self.first_word() == "bytes"):
            piece = bytes_in(self.counted("bytes", 1)[0])
            self.must(piece is not None and 1 <= len(piece) <= BYTES_IN_LINE)
            row = (*row, *piece)
            self.must(width // 8 <= len(row) <= LONGEST)
            size = len(piece)
            self.pass_line()
        return row

    def pass_end(self):
        """Looks whether no line is left."""
        self.must(self.line == len(self.texts))
