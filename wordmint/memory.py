"""The memory of a store: bytes that begin with the base cell."""

from wordmint.cells import bytes_of, check_number, check_width, is_between, is_byte, is_integer, number_of
from wordmint.errors import BadAddress, BadByte, BadCode, BadNumber, NoRoom
from wordmint.reading import printed

LONGEST = 2048
FIRST_BASE = 10


def check_byte(thing):
    """Raises BadByte unless it is a byte."""
    if not is_byte(thing):
        raise BadByte(thing)


def check_length(width, length):
    """Raises NoRoom unless a memory may have this length."""
    if length < width // 8 or length > LONGEST:
        raise NoRoom(length)


class Memory:
    """A row of bytes, never shorter than one cell nor longer than 2048 bytes; the row may be told at the beginning."""

    def __init__(self, width, *, row=None):
        check_width(width)
        self.width = width
        self._row = list(bytes_of(width, FIRST_BASE) if row is None else row)

    @classmethod
    def of(cls, width, row):
        """A memory of these bytes."""
        check_width(width)
        for byte in row:
            check_byte(byte)
        check_length(width, len(row))
        return cls(width, row=row)

    def __len__(self):
        return len(self._row)

    def __iter__(self):
        return iter(self._row)

    def __getitem__(self, at):
        self.check_address(at, 1)
        return self._row[at]

    def __setitem__(self, at, worth):
        self.check_address(at, 1)
        check_byte(worth)
        self._row[at] = worth

    def __eq__(self, other):
        return isinstance(other, Memory) and self.width == other.width and self.all_bytes() == other.all_bytes()

    def check_address(self, address, count):
        """Raises BadAddress unless so many bytes lie there from the address on."""
        if not is_between(address, 0, len(self._row) - count):
            raise BadAddress(address)

    def cell(self, address):
        """The number in the cell at the address."""
        size = self.width // 8
        self.check_address(address, size)
        return number_of(self.width, self._row[address:address + size])

    def put(self, address, number):
        """Stores a number in the cell at the address."""
        size = self.width // 8
        self.check_address(address, size)
        check_number(self.width, number)
        self._row[address:address + size] = bytes_of(self.width, number)

    def grow(self, count):
        """Appends so many zero bytes, or removes bytes at the end if the count is negative."""
        if not is_integer(count):
            raise BadNumber(count)
        length = len(self._row) + count
        check_length(self.width, length)
        self._row = self._row[:length] + [0] * max(0, count)

    def add_cell(self, number):
        """Appends a cell with this number."""
        check_number(self.width, number)
        check_length(self.width, len(self._row) + self.width // 8)
        self._row.extend(bytes_of(self.width, number))

    def add_byte(self, byte):
        """Appends a byte."""
        check_byte(byte)
        check_length(self.width, len(self._row) + 1)
        self._row.append(byte)

    def text(self, address, count):
        """The string of so many bytes from the address on."""
        if not is_integer(address) or not is_integer(count) or count < 0:
            raise BadAddress(address)
        if count == 0:
            return ""
        self.check_address(address, count)
        signs = []
        for code in list(self._row[address:address + count]):
            sign = printed(code)
            if sign == "":
                raise BadCode(code)
            signs.append(sign)
        return "".join(signs)

    def all_bytes(self):
        """The tuple of all bytes."""
        return tuple(self._row)

    def copy(self):
        """A memory of the same bytes that goes its own way."""
        return Memory(self.width, row=self._row)
