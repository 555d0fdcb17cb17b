"""Blaming: the first word that a reader reads otherwise than the host."""

from tests.helpers import Case
from tests.test_session import READER
from wordmint.blaming import blame
from wordmint.errors import BadText, BadWidth, Refused, StillOpen, TooMany, Unknown
from wordmint.minting import mint, remint, settles
from wordmint.saving import save
from wordmint.source import SOURCE

END = len(READER)


def reader(old, new):
    """The reader's text with something else in it."""
    lines = [line.replace(old, new) for line in READER]
    assert lines != READER
    return lines


# Each takes one thing otherwise: the number 77, words that are not known, the end of what is read.
NUMBERS = reader("drop state [ unless> ] literal", "drop dup 7 11 * = 1 and + state [ unless> ] literal")
UNKNOWN = reader("drop drop -13 throw", "drop drop")
ENDS = reader("[ <goto >land ] ;", "[ <goto >land ] 5 c, ;")


class Errors(Case):
    def refused(self, kind, *args, **named):
        with self.assertRaises(Refused) as caught:
            blame(*args, **named)
        self.assertEqual(caught.exception.kind, kind)

    def test_in_their_order(self):
        self.fails(BadWidth, 8, blame, 8, None, reader="nope")
        self.fails(BadText, -1, blame, 16, None, reader="nope")
        self.fails(BadText, 0, blame, 16, ["\n"], reader="nope")
        self.refused("error", 16, ["nope"], reader="nope")
        self.refused("stack", 16, ["1"], reader="nope")
        self.refused("asks", 16, ["ask"])
        self.fails(StillOpen, "x", blame, 16, [": x"], reader="nope")
        self.fails(Unknown, "nope", blame, 16, READER, reader="nope")
        self.fails(Unknown, "read", blame, 16, [])
        self.fails(Unknown, "", blame, 16, READER, reader="")
        many = ["new-list drop"] * 6
        self.fails(Unknown, "nope", blame, 16, READER + many, reader="nope")
        self.fails(TooMany, 8, blame, 16, READER + many)
        self.assertIsNone(blame(16, READER + many[:1]))


class NoBlame(Case):
    def test_readers_that_do_what_the_host_does(self):
        for width in (16, 24, 32):
            for lines in (READER, SOURCE, list(SOURCE) + ["variable v", "5 constant five", ": f five ;", "", "f drop"],
                          READER + ["", "  ", ": x ( a -- b ) { a } a", "; : y [: x ;]", "drop ;", "defer d 0 0 create c 5 , ' @ behave"]):
                self.assertIsNone(blame(width, lines))
        lines = [line.replace(": read", ": take") for line in READER]
        self.assertIsNone(blame(16, lines, reader="take"))
        self.assertIsNone(blame(16, tuple(lines), reader="take"))

    def test_a_reader_that_would_do_otherwise_with_what_is_not_there(self):
        for lines in (NUMBERS, UNKNOWN):
            self.assertEqual(settles(16, lines + [": x 5 ;"]), 0)
            self.assertIsNone(blame(16, lines + [": x 5 ;"]))


class Blames(Case):
    def blamed(self, lines, *told):
        """The blame, behind a text whose image 1 is not image 0."""
        self.assertNotEqual(settles(16, lines), 0)
        self.assertEqual(blame(16, lines), told)
        # The text stays, and so does what is told of it.
        self.assertEqual(blame(16, list(lines)), told)

    def test_a_number(self):
        self.blamed(NUMBERS + [": x 5 ;", ": y 76 77 78 ;", "77 drop"], END + 1, 7, "77")
        self.blamed(NUMBERS + ["77 ,"], END, 0, "77")

    def test_a_number_that_leaves_no_trace(self):
        # Image 1 is image 0, and behind the line nothing differs.
        self.assertEqual((settles(16, NUMBERS + ["77 drop"]), blame(16, NUMBERS + ["77 drop"])), (0, None))
        # If image 1 is another one, the line still is not the first one that differs.
        self.blamed(NUMBERS + ["77 drop", "1 , 77 drop 77 ,"], END + 1, 4, "77")

    def test_the_first_word_and_the_last_word(self):
        self.blamed(NUMBERS + ["", "  77 , 1 ,"], END + 1, 2, "77")
        self.blamed(NUMBERS + ["1 , 2 , 77", ","], END, 8, "77")
        self.blamed(NUMBERS + [": a 1 ; : b 77 ; : c 77 ;"], END, 12, "77")

    def test_a_word(self):
        # The first word that is compiled; in the line it is the third one.
        lines = reader("drop state [ unless> ] compile", "drop state [ unless> ] compile 1 c,")
        self.blamed(lines, 0, 10, "drop")

    def test_an_immediate_word(self):
        lines = reader(": a-now drop perform ;", ": a-now drop 7 c, perform ;")
        line = lines[0]
        self.assertEqual(blame(16, lines), (0, line.index(";"), ";"))

    def test_an_unknown_word(self):
        # The text as a whole has none, but a line of it does.
        lines = UNKNOWN + [": skip word drop ;", "1 , skip", "nope 5 c,", "marker m"]
        self.blamed(lines, END + 2, 0, "nope")

    def test_lines_that_are_refused_on_one_side(self):
        # Read line by line, the word behind skip is the next line's: the host refuses it, the reader does not.
        lines = UNKNOWN + [": skip word drop ;", "skip", "nope 5 c,"]
        self.assertEqual(settles(16, lines), 0)
        self.assertIsNone(blame(16, lines))
        lines = lines + ["marker m"]
        self.blamed(lines, END + 2, 0, "nope")
        # Refused by both alike is no difference.
        lines = READER + [": skip word drop ;", "skip", "nope 5 c,", "marker m"]
        self.blamed(lines, END + 3, 7, "m")

    def test_lines_that_are_refused_by_the_reader(self):
        lines = reader("drop drop -13 throw", "drop drop -14 throw") + [": skip word drop ;", "skip", "nope 5 c,", "marker m"]
        self.blamed(lines, END + 2, 0, "nope")

    def test_the_end_of_a_line(self):
        # Behind the first word alone both sides end in an error.
        self.blamed(ENDS, 0, 2, "a-local")
        self.blamed([""] + ENDS, 0, 0, "")
        self.blamed(["   "] + ENDS, 0, 0, "")

    def test_what_only_the_whole_line_shows(self):
        # A reader of lines of one word each: if more than one blank is left behind a word, it appends a byte.
        lines = reader("lookup a-kind [ <goto", "lookup a-kind 10 parse [ unless> ] 1 c, [ >land ] [ <goto")
        words = " ".join(lines).split()
        self.blamed(words + ["here ", "  here  ", "drop", "drop"], len(words) + 1, 2, "here")
        self.assertEqual((settles(16, words + ["here ", "drop"]), blame(16, words + ["here ", "drop"])), (0, None))

    def test_leaks_are_differences(self):
        lines = READER + [": a ;", ": b a ; marker m : c ;", ": d ;"]
        self.blamed(lines, END + 1, 15, "m")
        self.blamed(READER + [": a ;  marker gone"], END, 14, "gone")
        lines = READER + [": y 1 ;", "1 into"]
        self.blamed(lines, END + 1, 2, "into")

    def test_open_definitions(self):
        lines = NUMBERS + [": x 1", "2 77 3", "+ + + ;"]
        self.blamed(lines, END + 1, 2, "77")
        lines = NUMBERS + [": x [: 1", "77 drop", ";] drop drop ;"]
        self.blamed(lines, END + 1, 0, "77")

    def test_leaks_of_open_definitions(self):
        lines = READER + ["1 , 2 , 3 ,", ": x [ 4 address ] 5", "drop drop ;"]
        self.blamed(lines, END + 1, 8, "address")

    def test_leaks_of_the_stack(self):
        # The older reader stands in list 1, whose token is the same number on both sides.
        lines = READER + ["1 also ' read previous", "drop marker m"]
        self.blamed(lines, END, 2, "also")
        lines = READER + [": look ' ;", "1 also look read previous", "drop marker m"]
        self.blamed(lines, END + 1, 2, "also")

    def test_the_stack_between_lines(self):
        lines = NUMBERS + ["76 77", "drop drop"]
        self.assertEqual((settles(16, lines), blame(16, lines)), (0, None))
        lines = NUMBERS + ["5 76", "77", "drop drop drop marker m"]
        self.blamed(lines, END + 1, 0, "77")
        # Tokens are moved as words are.
        lines = READER + [": w ;", "' w ' dup", "drop drop marker m"]
        self.blamed(lines, END + 2, 17, "m")

    def test_a_reader_of_another_name(self):
        lines = [line.replace(": read", ": take") for line in NUMBERS] + [": x 77 ;"]
        self.assertEqual(blame(16, lines, reader="take"), (END, 4, "77"))

    def test_image_1_that_cannot_be_made(self):
        self.blamed(reader("[ <goto >land ] ;", "[ <goto >land ] 5 ;"), 0, 2, "a-local")
        self.blamed(reader("[ <goto >land ] ;", "[ <goto >land ] 5 throw ;"), 0, 2, "a-local")

    def test_a_reader_that_leaves_a_definition_open(self):
        # Behind the literal 77 it passes all that is left.
        lines = reader("drop state [ unless> ] literal [ goto> swap >land ] [ >land ] ;",
                       "drop state [ unless> ] dup literal 7 11 * = [ unless> <mark ] word [ unless> swap <goto >land >land goto> swap >land ] [ >land ] ;")
        with self.assertRaises(StillOpen):
            remint(mint(16, lines + [": x 77 ;"]), lines + [": x 77 ;"])
        self.blamed(lines + [": x 77 ;"], END, 7, ";")

    def test_a_difference_behind_no_line(self):
        # Read line by line, x is never there, and its line ends in the same error on both sides.
        lines = NUMBERS + [":", "x ;", "x 77 ,"]
        self.assertNotEqual(settles(16, lines), 0)
        self.assertIsNone(blame(16, lines))

    def test_the_source(self):
        lines = tuple([line.replace("drop -13 throw", "drop 1 +").replace("state if literal", "1 + state if literal") for line in SOURCE])
        self.assertNotEqual(lines, SOURCE)
        told = blame(16, lines)
        self.assertEqual(told, (0, SOURCE[0].index("10"), "10"))
        self.assertNotEqual(save(mint(16, lines)), save(mint(16, SOURCE)))


if __name__ == "__main__":
    import unittest
    unittest.main()
