"""Numbers of the three widths, their bytes, the arithmetic acts, and how numbers are written."""

from wordmint.errors import BadBase, BadByte, BadNumber, BadOp, BadWidth, ByZero

WIDTHS = (16, 24, 32)
ARITHMETIC = ("+", "-", "*", "/", "mod", "and", "or", "xor", "=", "<", "u<", "invert", "0=")
SINGLE = ("invert", "0=")
DIGITS = "0123456789abcdefghijklmnopqrstuvwxyz"


def is_integer(thing):
    """Whether it is an integer; True and False are none."""
    return isinstance(thing, int) and not isinstance(thing, bool)


def is_between(thing, low, high):
    """Whether it is an integer from low to high."""
    return is_integer(thing) and low <= thing <= high


def is_byte(thing):
    """Whether it is an integer from 0 to 255."""
    return is_between(thing, 0, 255)


def is_base(thing):
    """Whether it is a base in which numbers can be shown."""
    return is_between(thing, 2, 36)


def check_width(width):
    """Raises BadWidth unless it is a width."""
    if not is_integer(width) or width not in WIDTHS:
        raise BadWidth(width)


def check_base(base):
    """Raises BadBase unless it is a base."""
    if not is_base(base):
        raise BadBase(base)


def check_number(width, thing):
    """Raises BadNumber unless it is a number of the width."""
    if not is_number(width, thing):
        raise BadNumber(thing)


def half(width):
    """The count of the numbers of the width that are not negative."""
    check_width(width)
    return 1 << (width - 1)


def wrap(width, number):
    """The number of the width that differs from the integer by a multiple of 2 * half."""
    bound = half(width)
    return (number + bound) % (2 * bound) - bound


def is_number(width, thing):
    """Whether it is a number of the width."""
    bound = half(width)
    return is_between(thing, -bound, bound - 1)


def bytes_of(width, number):
    """The bytes of a number, the least significant one first."""
    check_width(width)
    check_number(width, number)
    rest = number % (2 * half(width))
    row = []
    for _ in range(width // 8):
        row.append(rest % 256)
        rest = rest // 256
    return tuple(row)


def number_of(width, row):
    """The number that has these bytes."""
    check_width(width)
    if len(row) != width // 8:
        raise BadByte(None)
    for byte in row:
        if not is_byte(byte):
            raise BadByte(byte)
    value = 0
    for byte in row[::-1]:
        value = value * 256 + byte
    return wrap(width, value)


def truth(holds):
    """The number that stands for a truth."""
    return -1 if holds else 0


def divided(op, left, right):
    """The quotient or the rest, before it is wrapped."""
    if right == 0:
        raise ByZero(left)
    return left // right if op == "/" else left % right


def of_two(width, op, left, right):
    """The result of an act with two numbers, before it is wrapped."""
    if op == "+":
        return left + right
    if op == "-":
        return left - right
    if op == "*":
        return left * right
    if op == "and":
        return left & right
    if op == "or":
        return left | right
    if op == "xor":
        return left ^ right
    if op == "=":
        return truth(left == right)
    if op == "<":
        return truth(left < right)
    if op == "u<":
        whole = 2 * half(width)
        return truth(left % whole < right % whole)
    return divided(op, left, right)


def result_of(width, op, numbers):
    """The result of an arithmetic act with numbers that are known to be good."""
    if op == "invert":
        return -1 - numbers[0]
    if op == "0=":
        return truth(numbers[0] == 0)
    return wrap(width, of_two(width, op, numbers[0], numbers[1]))


def work(width, op, *numbers):
    """The result of an arithmetic act; the last number is the top one."""
    check_width(width)
    if op not in ARITHMETIC:
        raise BadOp(op)
    if len(numbers) != (1 if op in SINGLE else 2):
        raise BadNumber(None)
    for number in numbers:
        check_number(width, number)
    return result_of(width, op, numbers)


def show(base, number):
    """An integer, written in the base."""
    check_base(base)
    rest = abs(number)
    signs = []
    while rest > 0 or not signs:
        signs.append(DIGITS[rest % base])
        rest = rest // base
    if number < 0:
        signs.append("-")
    return "".join(signs[::-1])


def value_of(base, digits):
    """The value of a row of digits, or None if it is none."""
    if digits == "":
        return None
    value = 0
    for sign in digits:
        digit = DIGITS.find(sign)
        if digit < 0 or digit >= base:
            return None
        value = value * base + digit
    return value


def read_number(width, base, word):
    """The number that a word is in the base, or None if it is none."""
    check_width(width)
    check_base(base)
    digits = word
    if digits.startswith("$") or digits.startswith("#"):
        base = 16 if digits.startswith("$") else 10
        digits = digits[1:]
    negative = digits.startswith("-")
    value = value_of(base, digits[1:] if negative else digits)
    if value is None:
        return None
    value = -value if negative else value
    bound = half(width)
    return wrap(width, value) if -bound <= value < 2 * bound else None
