"""The errors of the package: each keeps what it tells in one attribute."""


class MintError(ValueError):
    """The base of all errors of the package."""


class BadWidth(MintError):
    """A width that is not 16, 24 or 32."""

    def __init__(self, width):
        self.width = width


class BadNumber(MintError):
    """A thing that is no number where one is due."""

    def __init__(self, number):
        self.number = number


class BadOp(MintError):
    """A thing that is no arithmetic act."""

    def __init__(self, op):
        self.op = op


class ByZero(MintError):
    """A division by zero; the number is the left one."""

    def __init__(self, number):
        self.number = number


class BadBase(MintError):
    """A base that is not from 2 to 36."""

    def __init__(self, base):
        self.base = base


class BadCode(MintError):
    """A code that is not printable."""

    def __init__(self, code):
        self.code = code


class BadAddress(MintError):
    """An address at which the memory does not have what is asked for."""

    def __init__(self, address):
        self.address = address


class BadByte(MintError):
    """A thing that is no byte where one is due."""

    def __init__(self, byte):
        self.byte = byte


class NoRoom(MintError):
    """A length that the memory must not have."""

    def __init__(self, length):
        self.length = length


class BadBody(MintError):
    """A body that is wrong at this place."""

    def __init__(self, place):
        self.place = place


class BadName(MintError):
    """A thing that is no name."""

    def __init__(self, name):
        self.name = name


class BadEffect(MintError):
    """A thing that is no effect where one is due."""

    def __init__(self, pair):
        self.pair = pair


class Unfit(MintError):
    """A word that does not fit what is asked of it."""

    def __init__(self, number):
        self.number = number


class NoWord(MintError):
    """A number of no word of the store."""

    def __init__(self, number):
        self.number = number


class TooMany(MintError):
    """One thing more than the limit allows."""

    def __init__(self, limit):
        self.limit = limit


class TooLong(MintError):
    """A word whose opened body would be too long."""

    def __init__(self, number):
        self.number = number


class BadItem(MintError):
    """A thing that is no item of the store."""

    def __init__(self, item):
        self.item = item


class BadRoom(MintError):
    """A room that a machine cannot have."""

    def __init__(self, room):
        self.room = room


class BadText(MintError):
    """A text that is wrong in this line; -1 if it is none at all."""

    def __init__(self, line):
        self.line = line


class NoEnd(MintError):
    """A line that lacks the sign to parse up to; the source stays at the column."""

    def __init__(self, column):
        self.column = column


class NoList(MintError):
    """A number of no list."""

    def __init__(self, number):
        self.number = number


class LastList(MintError):
    """The only list of an order, which cannot be dropped."""

    def __init__(self, number):
        self.number = number


class BadBlock(MintError):
    """A number of no block."""

    def __init__(self, number):
        self.number = number


class Unknown(MintError):
    """A name that no word has."""

    def __init__(self, name):
        self.name = name


class Thrown(MintError):
    """An error of the machine, with its number."""

    def __init__(self, number):
        self.number = number


class Refused(MintError):
    """A reading that was refused, with the kind of its outcome."""

    def __init__(self, kind):
        self.kind = kind


class NotChecked(MintError):
    """A word that is refused where one that is let by is due."""

    def __init__(self, number):
        self.number = number


class BadRegisters(MintError):
    """A count of registers that is not from 2 to 8."""

    def __init__(self, registers):
        self.registers = registers


class BadRow(MintError):
    """The number of a bad row of code."""

    def __init__(self, row):
        self.row = row


class BadImage(MintError):
    """The number of a line that is wrong in an image."""

    def __init__(self, line):
        self.line = line


class StillOpen(MintError):
    """The name of a definition that is still open."""

    def __init__(self, name):
        self.name = name


class BadMoment(MintError):
    """A thing that is no moment of a tracer."""

    def __init__(self, number):
        self.number = number


class NoBreak(MintError):
    """A place at which there is, or can be, no break."""

    def __init__(self, place):
        self.place = place
