"""Blocks: pieces of text, their bounds, and texts that are cut."""

from tests.helpers import Case
from wordmint.blocks import Blocks
from wordmint.errors import BadBlock, BadText

NO_BLOCKS = (-1, 8, True, False, None, "0", (0,), 1.0)


def lines_of(count):
    return [f"line {number}" for number in range(count)]


class Pieces(Case):
    def test_at_the_beginning(self):
        blocks = Blocks()
        self.assertEqual([blocks[number] for number in range(8)], [()] * 8)
        self.assertEqual(list(blocks), [])
        self.assertEqual(blocks.text(), ())
        self.assertEqual(blocks.text(0, 7), ())

    def test_a_piece_of_eight_lines(self):
        blocks = Blocks()
        blocks[0] = lines_of(8)
        blocks[7] = ("a",)
        self.assertEqual((blocks[0], blocks[7]), (tuple(lines_of(8)), ("a",)))
        self.assertEqual([list(blocks), [number in blocks for number in range(-1, 9)]],
                         [[0, 7], [False, True, False, False, False, False, False, False, True, False]])
        blocks[0] = []
        self.assertEqual((blocks[0], list(blocks), 0 in blocks), ((), [7], False))
        blocks[3] = [""]
        self.assertEqual(list(blocks), [3, 7])

    def test_a_list_is_copied(self):
        blocks = Blocks()
        lines = ["a"]
        blocks[1] = lines
        lines.append("b")
        self.assertEqual(blocks[1], ("a",))

    def test_errors(self):
        blocks = Blocks()
        blocks[2] = ["old"]
        for number in NO_BLOCKS:
            self.fails(BadBlock, number, lambda: blocks[number])
            self.fails(BadBlock, number, blocks.text, 2, number, None)
            with self.assertRaises(BadBlock):
                blocks[number] = None
        for lines, told in ((None, -1), ("text", -1), (lines_of(9), -1), ([None] * 9, -1), (["a", "b\n", None], 1),
                            (["a", None], 1), (["x" * 201], 0), (["50%"], 0), ({}, -1)):
            with self.assertRaises(BadText) as caught:
                blocks[2] = lines
            self.assertEqual(caught.exception.line, told)
        self.assertEqual((blocks[2], list(blocks)), (("old",), [2]))

    def test_the_block_goes_ahead_of_the_text(self):
        blocks = Blocks()
        with self.assertRaises(BadBlock) as caught:
            blocks[8] = None
        self.assertEqual(caught.exception.number, 8)

    def test_equal(self):
        blocks, others = Blocks(), Blocks()
        self.assertEqual(blocks, others)
        blocks[4] = ["a"]
        self.assertFalse(blocks == others)
        others[4] = ("a",)
        self.assertEqual(blocks, others)
        others[5] = ("a",)
        self.assertFalse(blocks == others)
        self.assertFalse(blocks == [()] * 8)


class Texts(Case):
    def test_cut(self):
        self.assertEqual(Blocks.cut([]), [])
        self.assertEqual(Blocks.cut(["a"]), [("a",)])
        text = lines_of(17)
        self.assertEqual(Blocks.cut(text), [tuple(text[:8]), tuple(text[8:16]), ("line 16",)])
        self.assertEqual(Blocks.cut(tuple(text[:16])), [tuple(text[:8]), tuple(text[8:16])])
        self.assertEqual(len(Blocks.cut(lines_of(200))), 25)

    def test_fill(self):
        blocks = Blocks()
        self.assertEqual(blocks.fill(lines_of(17)), (0, 1, 2))
        self.assertEqual([len(blocks[number]) for number in range(8)], [8, 8, 1, 0, 0, 0, 0, 0])
        self.assertEqual(blocks.fill(["x"], 1), (1,))
        self.assertEqual((blocks[1], len(blocks[0]), len(blocks[2])), (("x",), 8, 1))
        self.assertEqual(blocks.fill(lines_of(9), start=6), (6, 7))
        self.assertEqual(list(blocks), [0, 1, 2, 6, 7])

    def test_fill_all(self):
        blocks = Blocks()
        self.assertEqual(blocks.fill(lines_of(64)), (0, 1, 2, 3, 4, 5, 6, 7))
        self.assertEqual(blocks.text(*range(8)), tuple(lines_of(64)))

    def test_fill_beyond_the_last_block_changes_nothing(self):
        blocks = Blocks()
        blocks.fill(["a"], 7)
        self.fails(BadBlock, 8, blocks.fill, lines_of(65))
        self.fails(BadBlock, 8, blocks.fill, lines_of(9), 7)
        self.fails(BadBlock, 8, blocks.fill, lines_of(17), start=6)
        self.fails(BadBlock, 9, blocks.fill, lines_of(1), 9)
        self.fails(BadBlock, -1, blocks.fill, lines_of(9), -1)
        for start in (True, None, "0"):
            self.fails(BadBlock, start, blocks.fill, ["a"], start)
        self.assertEqual((list(blocks), blocks[7]), ([7], ("a",)))

    def test_fill_of_no_text(self):
        blocks = Blocks()
        self.assertEqual(blocks.fill([]), ())
        self.assertEqual(blocks.fill((), 8), ())
        for lines, told in ((None, -1), ("a", -1), (lines_of(201), -1), (["a"] * 9 + ["\t"], 9)):
            self.fails(BadText, told, blocks.fill, lines, 99)
        self.assertEqual(list(blocks), [])

    def test_an_empty_text_leaves_the_block(self):
        blocks = Blocks()
        blocks[0] = ["a"]
        self.assertEqual((blocks.fill([]), blocks[0]), ((), ("a",)))

    def test_text_in_any_order(self):
        blocks = Blocks()
        blocks.fill(lines_of(10))
        blocks[5] = ["five"]
        self.assertEqual(blocks.text(5, 1, 3, 5), ("five", "line 8", "line 9", "five"))
        self.assertEqual(blocks.text(0), tuple(lines_of(8)))
