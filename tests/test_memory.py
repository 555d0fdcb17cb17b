"""Memories: their deeds at and beyond the last good address and length, and their errors in order."""

import unittest

from tests.helpers import Case
from wordmint.cells import bytes_of
from wordmint.errors import BadAddress, BadByte, BadCode, BadNumber, BadWidth, NoRoom
from wordmint.memory import Memory

WIDTHS = (16, 24, 32)
NOT_INTEGERS = (True, False, None, "1", (1,), [1], 1.0)
BEYOND = 10 ** 39


class Made(Case):
    def test_new(self):
        for width in WIDTHS:
            memory = Memory(width)
            self.assertEqual(len(memory), width // 8)
            self.assertEqual(memory.all_bytes(), bytes_of(width, 10))
            self.assertEqual(list(memory), list(bytes_of(width, 10)))

    def test_wrong_width(self):
        for width in (0, 8, 17, True, None, "16"):
            self.fails(BadWidth, width, Memory, width)
            self.fails(BadWidth, width, Memory.of, width, (999,))

    def test_of(self):
        for width in WIDTHS:
            size = width // 8
            for length in (size, size + 1, 2047, 2048):
                row = [k % 256 for k in range(length)]
                memory = Memory.of(width, row)
                self.assertEqual(memory.all_bytes(), tuple(row))
                row[0] = 77
                self.assertEqual(memory[0], 0)
                self.assertEqual(Memory.of(width, tuple(row))[0], 77)
            for length in (0, size - 1, 2049, 3000):
                self.fails(NoRoom, length, Memory.of, width, (0,) * length)

    def test_of_wrong_bytes(self):
        for thing in NOT_INTEGERS + (256, -1, BEYOND):
            self.fails(BadByte, thing, Memory.of, 16, (1, thing))
            self.fails(BadByte, thing, Memory.of, 16, [thing] * 3000)
            self.fails(BadByte, thing, Memory.of, 16, [thing])
        self.fails(BadByte, 300, Memory.of, 16, (0, 300, -1))

    def test_equality(self):
        self.assertEqual(Memory(16), Memory.of(16, (10, 0)))
        self.assertNotEqual(Memory(16), Memory.of(16, (10, 1)))
        self.assertNotEqual(Memory(16), Memory.of(16, (10, 0, 0)))
        self.assertNotEqual(Memory.of(16, (10, 0, 0)), Memory(24))
        self.assertNotEqual(Memory(16), (10, 0))
        self.assertNotEqual(Memory(16), None)


class Filled(Case):
    """Deeds on a memory of 10 bytes."""

    def memory(self, width=16, length=10):
        return Memory.of(width, [k + 1 for k in range(length)])

    def unchanged(self, kind, told, name, *args):
        """The deed raises this error and changes nothing."""
        for width in WIDTHS:
            memory = self.memory(width)
            self.fails(kind, told, getattr(memory, name), *args)
            self.assertEqual(memory, self.memory(width))

    def test_bytes(self):
        memory = self.memory()
        self.assertEqual((memory[0], memory[9]), (1, 10))
        memory[0] = 255
        memory[9] = 0
        self.assertEqual(memory.all_bytes(), (255, 2, 3, 4, 5, 6, 7, 8, 9, 0))
        for address in NOT_INTEGERS + (-1, 10, 2048, BEYOND, -BEYOND):
            self.fails(BadAddress, address, memory.__getitem__, address)
            self.fails(BadAddress, address, memory.__setitem__, address, 999)
        for byte in NOT_INTEGERS + (-1, 256):
            self.fails(BadByte, byte, memory.__setitem__, 3, byte)
        self.assertEqual(memory.all_bytes(), (255, 2, 3, 4, 5, 6, 7, 8, 9, 0))

    def test_cells(self):
        for width in WIDTHS:
            size = width // 8
            half = 1 << (width - 1)
            for address in (0, 1, 10 - size):
                memory = self.memory(width)
                row = memory.all_bytes()
                self.assertEqual(memory.cell(address), int.from_bytes(bytes(row[address:address + size]), "little"))
                for number in (0, 1, -1, half - 1, -half):
                    memory.put(address, number)
                    self.assertEqual(memory.cell(address), number)
                    self.assertEqual(memory.all_bytes(),
                                     row[:address] + bytes_of(width, number) + row[address + size:])
            memory = self.memory(width)
            for address in NOT_INTEGERS + (-1, 10 - size + 1, 10, BEYOND, -BEYOND):
                self.fails(BadAddress, address, memory.cell, address)
                self.fails(BadAddress, address, memory.put, address, None)
            for number in NOT_INTEGERS + (half, -half - 1):
                self.fails(BadNumber, number, memory.put, 0, number)
            self.assertEqual(memory, self.memory(width))

    def test_grow(self):
        for width in WIDTHS:
            size = width // 8
            memory = self.memory(width)
            memory.grow(3)
            self.assertEqual(memory.all_bytes(), tuple(range(1, 11)) + (0, 0, 0))
            memory.grow(-5)
            self.assertEqual(memory.all_bytes(), tuple(range(1, 9)))
            memory.grow(0)
            self.assertEqual(len(memory), 8)
            memory.grow(2048 - 8)
            self.assertEqual(len(memory), 2048)
            self.fails(NoRoom, 2049, memory.grow, 1)
            memory.grow(size - 2048)
            self.assertEqual(memory.all_bytes(), tuple(range(1, size + 1)))
            self.fails(NoRoom, size - 1, memory.grow, -1)
            self.assertEqual(memory.all_bytes(), tuple(range(1, size + 1)))

    def test_grow_by_what_does_not_go(self):
        self.unchanged(NoRoom, 10 + BEYOND, "grow", BEYOND)
        self.unchanged(NoRoom, 10 - BEYOND, "grow", -BEYOND)
        self.unchanged(NoRoom, 2049, "grow", 2039)
        for thing in NOT_INTEGERS:
            self.unchanged(BadNumber, thing, "grow", thing)

    def test_appending(self):
        for width in WIDTHS:
            size = width // 8
            memory = self.memory(width)
            memory.add_cell(-2)
            memory.add_byte(200)
            self.assertEqual(memory.all_bytes(), tuple(range(1, 11)) + bytes_of(width, -2) + (200,))
            memory.grow(2048 - size - len(memory))
            memory.add_cell(5)
            self.assertEqual((len(memory), memory.cell(2048 - size)), (2048, 5))
            self.fails(NoRoom, 2048 + size, memory.add_cell, 5)
            self.fails(NoRoom, 2049, memory.add_byte, 5)
            memory.grow(-1)
            self.fails(NoRoom, 2047 + size, memory.add_cell, 5)
            memory.add_byte(7)
            self.assertEqual((len(memory), memory[2047]), (2048, 7))
            for thing in NOT_INTEGERS + (1 << 31, -(1 << 31) - 1):
                self.fails(BadNumber, thing, memory.add_cell, thing)
            for thing in NOT_INTEGERS + (256, -1):
                self.fails(BadByte, thing, memory.add_byte, thing)
            self.assertEqual(len(memory), 2048)

    def test_text(self):
        memory = Memory.of(16, [ord(sign) for sign in "ab ~\n"] + [37, 31, 127, 0])
        self.assertEqual(memory.text(0, 5), "ab ~\n")
        self.assertEqual(memory.text(1, 1), "b")
        for address in (0, 8, 9, 10, -1, BEYOND):
            self.assertEqual(memory.text(address, 0), "")
        for address in (5, 6, 7, 8):
            self.fails(BadCode, memory[address], memory.text, address, 1)
        self.fails(BadCode, 37, memory.text, 0, 9)
        self.fails(BadCode, 31, memory.text, 6, 3)
        for address, count in ((0, -1), (0, 10), (9, 1), (-1, 1), (8, 2), (BEYOND, 1), (0, BEYOND), (0, -BEYOND),
                               (40, -1)):
            self.fails(BadAddress, address, memory.text, address, count)

    def test_copy(self):
        memory = self.memory()
        other = memory.copy()
        self.assertEqual(other, memory)
        memory[0] = 99
        memory.add_byte(4)
        self.assertEqual(other, self.memory())
        other.grow(5)
        self.assertEqual(memory.all_bytes(), (99,) + tuple(range(2, 11)) + (4,))


if __name__ == "__main__":
    unittest.main()
