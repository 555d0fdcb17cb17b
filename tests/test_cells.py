"""Numbers, bytes, the arithmetic acts, and how numbers are shown and read."""

import math
import unittest
from fractions import Fraction

from tests.helpers import Case
from wordmint import cells
from wordmint.errors import BadBase, BadByte, BadNumber, BadOp, BadWidth, ByZero

HALVES = {16: 32768, 24: 8388608, 32: 2147483648}
NO_WIDTHS = (0, 8, 15, 17, 64, -16, True, None, "16", (16,), [16], 16.0)
NO_BASES = (1, 0, 37, -10, True, None, "10", (10,), 10.0)
NO_NUMBERS = (True, False, None, "1", (1,), [1], 1.0)


def plainly(width, op, left, right):
    """The result by another road: through fractions and rows of bits."""
    whole = 2 ** width

    def wrapped(value):
        value = value - whole * math.floor(Fraction(value, whole))
        return value - whole if value >= whole // 2 else value

    def bits(value):
        return format(value + whole if value < 0 else value, f"0{width}b")

    def joined(rule):
        row = "".join("1" if rule(a == "1", b == "1") else "0" for a, b in zip(bits(left), bits(right)))
        return wrapped(int(row, 2))

    if op == "/":
        return wrapped(math.floor(Fraction(left, right)))
    if op == "mod":
        return left - right * math.floor(Fraction(left, right))
    rules = {
        "+": lambda: wrapped(left + right),
        "-": lambda: wrapped(left - right),
        "*": lambda: wrapped(left * right),
        "and": lambda: joined(lambda a, b: a and b),
        "or": lambda: joined(lambda a, b: a or b),
        "xor": lambda: joined(lambda a, b: a != b),
        "=": lambda: -1 if left == right else 0,
        "<": lambda: -1 if left < right else 0,
        "u<": lambda: -1 if bits(left) < bits(right) else 0,
    }
    return rules[op]()


class Widths(Case):
    def test_names(self):
        self.assertEqual(cells.WIDTHS, (16, 24, 32))
        self.assertEqual(cells.ARITHMETIC, ("+", "-", "*", "/", "mod", "and", "or", "xor", "=", "<", "u<",
                                            "invert", "0="))

    def test_half(self):
        for width, half in HALVES.items():
            self.assertEqual(cells.half(width), half)

    def test_every_function_looks_at_the_width_first(self):
        for width in NO_WIDTHS:
            self.fails(BadWidth, width, cells.half, width)
            self.fails(BadWidth, width, cells.wrap, width, 1)
            self.fails(BadWidth, width, cells.is_number, width, None)
            self.fails(BadWidth, width, cells.bytes_of, width, None)
            self.fails(BadWidth, width, cells.number_of, width, (999,))
            self.fails(BadWidth, width, cells.work, width, "nope", None)
            self.fails(BadWidth, width, cells.read_number, width, 99, "1")


class Numbers(Case):
    def test_wrap(self):
        for width, half in HALVES.items():
            for number in (0, 1, -1, half - 1, -half):
                for turns in (0, 1, -1, 7, -10 ** 30):
                    self.assertEqual(cells.wrap(width, number + turns * 2 * half), number)
            self.assertEqual(cells.wrap(width, half), -half)
            self.assertEqual(cells.wrap(width, -half - 1), half - 1)

    def test_is_number(self):
        for width, half in HALVES.items():
            for number in (0, 1, -1, half - 1, -half):
                self.assertIs(cells.is_number(width, number), True)
            for thing in NO_NUMBERS + (half, -half - 1, 10 ** 39):
                self.assertIs(cells.is_number(width, thing), False)

    def test_bytes(self):
        self.assertEqual(cells.bytes_of(16, 0x1234), (0x34, 0x12))
        self.assertEqual(cells.bytes_of(24, -2), (254, 255, 255))
        self.assertEqual(cells.bytes_of(32, 10), (10, 0, 0, 0))
        for width, half in HALVES.items():
            for number in (0, 1, -1, 255, 256, -256, -257, half - 1, -half):
                row = cells.bytes_of(width, number)
                self.assertIs(row.__class__, tuple)
                self.assertEqual(bytes(row), (number % (2 * half)).to_bytes(width // 8, "little"))
                self.assertEqual(cells.number_of(width, row), number)
                self.assertEqual(cells.number_of(width, list(row)), number)

    def test_bytes_of_no_number(self):
        for width, half in HALVES.items():
            for thing in NO_NUMBERS + (half, -half - 1):
                self.fails(BadNumber, thing, cells.bytes_of, width, thing)

    def test_number_of_wrong_rows(self):
        for width in HALVES:
            size = width // 8
            for length in (0, 1, size - 1, size + 1):
                self.fails(BadByte, None, cells.number_of, width, (999,) * length)
            for thing in (256, -1, True, False, None, "1", (1,), 1.0):
                self.fails(BadByte, thing, cells.number_of, width, (thing,) * size)
                self.fails(BadByte, thing, cells.number_of, width, [0] * (size - 1) + [thing])
        self.fails(BadByte, 300, cells.number_of, 24, (0, 300, -1))

    def test_a_row_stays(self):
        row = [1, 2]
        cells.number_of(16, row)
        self.assertEqual(row, [1, 2])


class Work(Case):
    def test_all_acts_at_the_edges(self):
        for width, half in HALVES.items():
            edges = (0, 1, -1, 2, -2, 3, -3, 7, -7, 255, half - 1, half - 2, -half, -half + 1)
            for op in cells.ARITHMETIC[:-2]:
                for left in edges:
                    for right in edges:
                        if op in ("/", "mod") and right == 0:
                            self.fails(ByZero, left, cells.work, width, op, left, right)
                        else:
                            told = cells.work(width, op, left, right)
                            self.assertEqual(told, plainly(width, op, left, right), (width, op, left, right))
                            self.assertTrue(cells.is_number(width, told))
            for number in edges:
                self.assertEqual(cells.work(width, "invert", number), -1 - number)
                self.assertEqual(cells.work(width, "0=", number), -1 if number == 0 else 0)

    def test_division_by_hand(self):
        for width, half in HALVES.items():
            self.assertEqual(cells.work(width, "/", -half, -1), -half)
            self.assertEqual(cells.work(width, "mod", -half, -1), 0)
            self.assertEqual([cells.work(width, "/", left, right) for left, right in
                              ((7, 2), (-7, 2), (7, -2), (-7, -2))], [3, -4, -4, 3])
            self.assertEqual([cells.work(width, "mod", left, right) for left, right in
                              ((7, 2), (-7, 2), (7, -2), (-7, -2))], [1, 1, -1, -1])

    def test_order_by_hand(self):
        for width in HALVES:
            self.assertEqual([cells.work(width, "<", -1, 1), cells.work(width, "<", 1, -1)], [-1, 0])
            self.assertEqual([cells.work(width, "u<", -1, 1), cells.work(width, "u<", 1, -1)], [0, -1])
            self.assertEqual([cells.work(width, "u<", -2, -1), cells.work(width, "u<", 3, 3)], [-1, 0])

    def test_errors(self):
        for width, half in HALVES.items():
            for op in ("", "++", "dup", "u>", None, 0, True, ("+",), ["+"]):
                self.fails(BadOp, op, cells.work, width, op, 1, 2)
            for op in cells.ARITHMETIC:
                right_count = 1 if op in ("invert", "0=") else 2
                for count in range(4):
                    if count != right_count:
                        self.fails(BadNumber, None, cells.work, width, op, *([None] * count))
                for thing in NO_NUMBERS + (half, -half - 1):
                    self.fails(BadNumber, thing, cells.work, width, op, *([thing] * right_count))
                    if right_count == 2:
                        self.fails(BadNumber, thing, cells.work, width, op, 1, thing)

    def test_errors_in_order(self):
        self.fails(BadWidth, 17, cells.work, 17, "++")
        self.fails(BadOp, "++", cells.work, 16, "++", None)
        self.fails(BadNumber, None, cells.work, 16, "/", "x")
        self.fails(BadNumber, "x", cells.work, 16, "/", "x", None)
        self.fails(BadNumber, 32768, cells.work, 16, "mod", 32768, 0)
        self.fails(BadNumber, False, cells.work, 16, "/", 5, False)
        self.fails(ByZero, -32768, cells.work, 16, "mod", -32768, 0)


class Shown(Case):
    def test_by_hand(self):
        self.assertEqual([cells.show(base, 255) for base in (2, 8, 10, 16, 36)],
                         ["11111111", "377", "255", "ff", "73"])
        self.assertEqual([cells.show(base, -255) for base in (2, 10, 16)], ["-11111111", "-255", "-ff"])
        for base in range(2, 37):
            self.assertEqual(cells.show(base, 0), "0")
            self.assertEqual(cells.show(base, base), "10")
            self.assertEqual(cells.show(base, 1 - base), "-" + "0123456789abcdefghijklmnopqrstuvwxyz"[base - 1])

    def test_any_integer(self):
        for number in (10 ** 39, -10 ** 39, 2 ** 64, -1):
            for base in (2, 3, 10, 16, 36):
                self.assertEqual(int(cells.show(base, number), base), number)

    def test_no_base(self):
        for base in NO_BASES:
            self.fails(BadBase, base, cells.show, base, 5)
            self.fails(BadBase, base, cells.read_number, 16, base, "5")
            self.fails(BadWidth, 5, cells.read_number, 5, base, "5")


class Read(Case):
    def test_what_is_shown_is_read(self):
        for width, half in HALVES.items():
            for base in (2, 10, 16, 36):
                for value in (0, 1, -1, half - 1, half, 2 * half - 1, -half):
                    word = cells.show(base, value)
                    self.assertEqual(cells.read_number(width, base, word), cells.wrap(width, value))
                    zeros = word.replace("-", "-000") if value < 0 else "000" + word
                    self.assertEqual(cells.read_number(width, base, zeros), cells.wrap(width, value))
                for value in (2 * half, -half - 1, 10 ** 30, -10 ** 30):
                    self.assertIsNone(cells.read_number(width, base, cells.show(base, value)))

    def test_prefixes(self):
        for base in (2, 10, 16, 36):
            self.assertEqual(cells.read_number(16, base, "$ff"), 255)
            self.assertEqual(cells.read_number(16, base, "$-ff"), -255)
            self.assertEqual(cells.read_number(16, base, "#19"), 19)
            self.assertEqual(cells.read_number(16, base, "#-19"), -19)
            self.assertEqual(cells.read_number(16, base, "$ffff"), -1)
            self.assertEqual(cells.read_number(16, base, "$-8000"), -32768)
            self.assertIsNone(cells.read_number(16, base, "$10000"))
            self.assertIsNone(cells.read_number(16, base, "$-8001"))
            self.assertIsNone(cells.read_number(16, base, "#1f"))
            self.assertIsNone(cells.read_number(16, base, "$fg"))

    def test_no_numbers(self):
        for base in (2, 10, 16, 36):
            for word in ("", "-", "$", "#", "$-", "#-", "--1", "-$1", "$$1", "#$1", "$#1", "1-", "+1", "1.0", " 1",
                         "1 ", "1 1", "-#1", "_1", "1_0", "A", "FF", "?"):
                self.assertIsNone(cells.read_number(16, base, word), word)
        self.assertIsNone(cells.read_number(16, 2, "2"))
        self.assertIsNone(cells.read_number(16, 10, "a"))
        self.assertIsNone(cells.read_number(16, 16, "g"))
        self.assertEqual(cells.read_number(16, 36, "z"), 35)
        self.assertEqual(cells.read_number(16, 10, "-0"), 0)


if __name__ == "__main__":
    unittest.main()
