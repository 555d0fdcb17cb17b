"""Signs, lines, texts, and sources."""

import unittest

from tests.helpers import Case
from wordmint.errors import BadText, NoEnd
from wordmint.reading import SIGNS, Source, check_text, is_line, words_of

ALL_SIGNS = "".join(chr(code) for code in range(32, 127) if chr(code) != chr(37))


class Texts(Case):
    def test_signs(self):
        self.assertEqual(SIGNS, ALL_SIGNS)
        self.assertEqual(len(SIGNS), 94)

    def test_lines(self):
        for line in ("", " ", "a b", ALL_SIGNS, "x" * 199, "x" * 200, " " * 200):
            self.assertIs(is_line(line), True)
        for thing in ("x" * 201, chr(37), "a" + chr(37), "\n", "a\n", "\t", "\x1f", "\x7f", "\xe9", None, 0, True, ("a",),
                      ["a"], b"a"):
            self.assertIs(is_line(thing), False)

    def test_good_texts(self):
        for lines in ([], (), ["a"], ("a", "", "b"), [""] * 199, ["x" * 200] * 200):
            self.assertEqual(check_text(lines), tuple(lines))
            self.assertIs(check_text(lines).__class__, tuple)

    def test_bad_texts(self):
        for lines in (None, "abc", "", 0, {}, {"a": 1}, {"a"}, range(0), [""] * 201, (None,) * 201, ["x"] * 1000):
            for call in (check_text, Source):
                self.fails(BadText, -1, call, lines)
        for call in (check_text, Source):
            self.fails(BadText, 0, call, [None])
            self.fails(BadText, 2, call, ("a", "b", "x" * 201, None))
            self.fails(BadText, 1, call, ["", "5 " + chr(37)])
            self.fails(BadText, 199, call, [""] * 199 + [True])


class Sources(Case):
    def test_words(self):
        source = Source(["ab  c", "", "   ", " d"])
        told = []
        for _ in range(6):
            told.append((source.word(),) + source.where())
        self.assertEqual(told, [("ab", 0, 3), ("c", 0, 5), ("d", 3, 2), ("", 4, 0), ("", 4, 0), ("", 4, 0)])
        self.assertEqual((source.line, source.column), (4, 0))

    def test_one_blank_behind_a_word_is_passed(self):
        source = Source(["a  b "])
        self.assertEqual((source.word(), source.column), ("a", 2))
        self.assertEqual((source.rest(), source.column), (" b ", 5))
        source = Source(["b "])
        self.assertEqual((source.word(), source.column, source.line), ("b", 2, 0))
        self.assertEqual((source.word(), source.where()), ("", (1, 0)))

    def test_a_word_at_the_end_of_a_line(self):
        source = Source(["a", "b"])
        self.assertEqual((source.word(), source.where(), source.rest()), ("a", (0, 1), ""))
        self.assertEqual((source.word(), source.where()), ("b", (1, 1)))

    def test_long_words(self):
        source = Source(["x" * 200, ALL_SIGNS])
        self.assertEqual((source.word(), source.where()), ("x" * 200, (0, 200)))
        self.assertEqual(source.word(), ALL_SIGNS.strip())

    def test_empty_texts(self):
        for lines in ([], [""], ["  ", ""]):
            source = Source(lines)
            self.assertEqual((source.line, source.column), (0, 0))
            self.assertIs(source.ended(), True)
            self.assertEqual(source.where(), (0, 0))
            self.assertEqual((source.word(), source.where()), ("", (len(lines), 0)))
            self.assertEqual((source.rest(), source.where()), ("", (len(lines), 0)))
            self.fails(NoEnd, 0, source.parse, ")")

    def test_parse(self):
        source = Source(["( a b) c)", ") d"])
        self.assertEqual(source.word(), "(")
        self.assertEqual((source.parse(")"), source.where()), ("a b", (0, 6)))
        self.assertEqual((source.parse(")"), source.where()), (" c", (0, 9)))
        self.fails(NoEnd, 9, source.parse, ")")
        self.assertEqual(source.where(), (0, 9))
        self.assertEqual((source.word(), source.where()), (")", (1, 2)))
        self.fails(NoEnd, 2, source.parse, ")")
        self.assertEqual((source.parse("d"), source.where()), ("", (1, 3)))

    def test_parse_without_anything_ahead(self):
        source = Source(["\"\" x"])
        self.assertEqual((source.parse("\""), source.column), ("", 1))
        self.assertEqual((source.parse("\""), source.column), ("", 2))
        self.fails(NoEnd, 2, source.parse, "\"")
        self.assertEqual((source.parse(" "), source.column), ("", 3))

    def test_rest(self):
        source = Source(["ab cd ", "e"])
        source.word()
        self.assertEqual((source.rest(), source.where()), ("cd ", (0, 6)))
        self.assertEqual((source.rest(), source.where()), ("", (0, 6)))
        self.assertEqual(source.word(), "e")

    def test_ended(self):
        source = Source(["a ", " "])
        self.assertIs(source.ended(), False)
        self.assertEqual(source.where(), (0, 0))
        source.word()
        self.assertIs(source.ended(), True)
        self.assertEqual(source.where(), (0, 2))

    def test_the_text_is_copied(self):
        lines = ["a", "b"]
        source = Source(lines)
        lines[0] = "x"
        lines.append("y")
        self.assertEqual(source.text(), ("a", "b"))
        self.assertEqual([source.word(), source.word(), source.word()], ["a", "b", ""])

    def test_copy(self):
        source = Source(["a b c"])
        source.word()
        other = source.copy()
        self.assertEqual((other.word(), other.where(), source.where()), ("b", (0, 4), (0, 2)))
        self.assertEqual(other.text(), source.text())

    def test_joined(self):
        self.assertEqual(Source.joined(), ())
        self.assertEqual(Source.joined(["a", "b"]), ("a", "b"))
        self.assertEqual(Source.joined(["a"], ("b", "c"), [], ["d"]), ("a", "b", "c", "d"))
        first = ["a"]
        Source.joined(first, ["b"])
        self.assertEqual(first, ["a"])


class Words(Case):
    def test_words_of(self):
        self.assertEqual(list(words_of(["ab  c ", "", "  d"])), [(0, 0, "ab"), (0, 4, "c"), (2, 2, "d")])
        self.assertEqual(list(words_of([])), [])
        self.assertEqual(list(words_of(("", " "))), [])

    def test_nothing_is_done_ahead(self):
        words = words_of(None)
        self.fails(BadText, -1, next, words)
        words = words_of(["a", None])
        self.fails(BadText, 1, next, words)


if __name__ == "__main__":
    unittest.main()
