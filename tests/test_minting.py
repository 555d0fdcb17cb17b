"""Minting: systems made of texts by the host and by their own readers, leaks, turns and settling."""

from tests.helpers import Case, ops
from tests.test_session import READER
from wordmint.errors import BadText, BadWidth, Refused, StillOpen, Thrown, TooMany, Unknown
from wordmint.minting import Reminted, mint, remint, rounds, settles
from wordmint.saving import load, save
from wordmint.session import Session
from wordmint.source import SOURCE
from wordmint.system import KERNEL, System

FIRST = len(KERNEL)
# The same reader, written so that it does not hang on the base.
ANY_BASE = [line.replace("-13", "#-13") for line in READER]


class Base(Case):
    def refused(self, kind, number, call, *args, **named):
        with self.assertRaises(Refused) as caught:
            call(*args, **named)
        self.assertEqual(caught.exception.kind, kind)
        cause = caught.exception.__cause__
        if number is None:
            self.assertIsNone(cause)
        else:
            self.assertIsInstance(cause, Thrown)
            self.assertEqual(cause.number, number)


class Mint(Base):
    def test_good_texts(self):
        for width in (16, 24, 32):
            system = mint(width, [": x 1 ;", "5 ,"])
            session = Session(width)
            session.read([": x 1 ;", "5 ,"])
            self.assertEqual(system, session.system)
            self.assertIs(system.__class__, System)
            self.assertEqual(mint(width, []), System(width))
            self.assertEqual(mint(width, ("", " ")), System(width))

    def test_errors_in_their_order(self):
        for width in (8, True, None, "16", 17):
            self.fails(BadWidth, width, mint, width, None)
        self.fails(BadText, -1, mint, 16, None)
        self.fails(BadText, 1, mint, 16, ["nope", "\n"])
        self.refused("error", -13, mint, 16, ["1 nope"])
        self.refused("error", 5, mint, 16, ["1 5 throw"])
        self.refused("asks", 0, mint, 16, ["ask"])
        self.refused("over", 0, mint, 16, [" ".join(["1"] * 65)])
        self.refused("deep", 0, mint, 16, [": x recurse ;", "x"])
        self.refused("steps", 0, mint, 16, [": x [ <mark <goto ] ;", "x"])
        self.refused("stack", None, mint, 16, ["1"])
        self.refused("stack", None, mint, 16, ["1 : x"])
        self.fails(StillOpen, "x", mint, 16, [": x [: 1"])

    def test_rooms_and_steps(self):
        text = [": b <mark ; immediate : u <unless ; immediate : run-down b 1 - dup 0= u drop ;"]
        # A round is five steps.
        self.assertTrue(mint(16, text + ["3990 run-down"]))
        self.refused("steps", 0, mint, 16, text + ["4001 run-down"])
        self.assertTrue(mint(16, [" ".join(["1"] * 64)] + [" ".join(["drop"] * 32)] * 2))
        self.assertTrue(mint(16, [": d dup 0= [ unless> ] exit [ >land ] 1 - recurse ; 46 d drop"]))
        self.refused("deep", 0, mint, 16, [": d dup 0= [ unless> ] exit [ >land ] 1 - recurse ; 48 d drop"])


class Remint(Base):
    def test_errors_in_their_order(self):
        system = mint(16, READER)
        self.fails(Unknown, "nope", remint, system, None, reader="nope")
        self.fails(Unknown, "", remint, system, None, reader="")
        self.fails(Unknown, "dup", remint, system, None, reader="dup")
        self.fails(Unknown, "read", remint, System(16), None)
        other = mint(16, READER + ["new-list drop"] * 6)
        self.assertEqual(other.lists.count, 8)
        self.fails(Unknown, "nope", remint, other, None, reader="nope")
        self.fails(TooMany, 8, remint, other, None)
        self.fails(BadText, -1, remint, system, None)
        self.fails(BadText, 0, remint, system, ["\n"])
        self.refused("error", -13, remint, system, ["nope"])
        self.refused("asks", 0, remint, system, ["ask"])
        self.refused("over", 0, remint, system, [" ".join(["1"] * 65)])
        self.refused("stack", None, remint, system, ["1"])
        self.refused("stack", None, remint, system, ["1 : x"])
        self.fails(StillOpen, "x", remint, system, [": x [:"])

    def test_rooms_and_steps(self):
        """The reader has just the rooms and the steps that reading by it has if none are told."""
        frames = ": d dup 0= [ unless> ] exit [ >land ] 1 - recurse ; #{} d drop"
        steps = ": b <mark ; immediate : u <unless ; immediate : run-down b 1 - dup 0= u drop ; #{} run-down"
        for told, low, high in ((lambda count: [" ".join(["1"] * count)] + [" ".join(["drop"] * 30)] * 2 + ["drop"] * (count - 60), 60, 66),
                                (lambda count: [frames.format(count)], 1, 80), (lambda count: [steps.format(count)], 1, 5000)):
            system = mint(16, READER)
            while high - low > 1:
                middle = (low + high) // 2
                if Session.of(system).read_by("read", told(middle)):
                    low = middle
                else:
                    high = middle
            self.assertEqual(remint(system, told(low)).leaks, ())
            self.refused(Session.of(system).read_by("read", told(high)).kind, 0, remint, system, told(high))

    def test_seven_and_eight_lists(self):
        system = mint(16, READER + ["new-list drop"] * 5)
        self.assertEqual((system.lists.count, remint(system, [": x ;"]).system), (7, mint(16, [": x ;"])))
        system = mint(16, READER + ["new-list drop"] * 6)
        self.fails(TooMany, 8, remint, system, [": x ;"])

    def test_the_reader_is_the_word_of_list_1(self):
        # In list 2, which stands in front, read is another word.
        system = mint(16, READER + ["new-list dup also into : read 5 throw ;"])
        self.assertEqual(remint(system, [": x 1 ;"]).system, mint(16, [": x 1 ;"]))
        system = mint(16, [line.replace(": read", ": take") for line in READER] + [": read 5 throw ;"])
        self.refused("error", 5, remint, system, [": x 1 ;"])
        self.assertEqual(remint(system, [": x 1 ;"], reader="take").system, mint(16, [": x 1 ;"]))
        # The youngest one of the list.
        system = mint(16, READER + [": read 7 throw ;"])
        self.refused("error", 7, remint, system, [])

    def test_what_is_made(self):
        text = [": constant create , [: @ ;] behave ; 5 constant five : w five five + ;", "defer d 0 1 : sd is d ; ' five sd",
                "new-list dup also into : x w ; immediate create c 7 , 8 c, 16 base !"]
        for width in (16, 24, 32):
            system = mint(width, READER + ["1 , 2 , 3 c, create old 9 ,", "defer later 0 0"])
            before = save(system)
            made = remint(system, text)
            self.assertIsInstance(made, Reminted)
            self.assertEqual((made.leaks, bool(made)), ((), True))
            self.assertEqual(save(made.system), save(mint(width, text)))
            self.assertEqual(made.system, mint(width, text))
            self.assertEqual([word.verdict for word in made.system], [word.verdict for word in mint(width, text)])
            self.assertEqual(load(save(made.system)), made.system)
            self.assertEqual(save(system), before)

    def test_verdicts_of_refused_words(self):
        text = [": bad [ unless> ] 1 [ >land ] ; : calls bad ; : calls-that calls ;"]
        made = remint(mint(16, READER), text).system
        told = mint(16, text)
        self.assertEqual([word.verdict for word in made], [word.verdict for word in told])
        self.assertEqual(made[FIRST + 2].verdict.number, FIRST + 1)

    def test_the_base_cell(self):
        # The reading begins with the base of the system, and leaves it as it is then.
        system = mint(16, READER + ["16 base !"])
        self.assertEqual(remint(system, [": x 10 ;"]).system[FIRST].body, ops("lit#16 exit"))
        self.assertEqual(remint(system, []).system.memory.all_bytes(), (16, 0))
        self.assertEqual(remint(system, ["2 base ! 1 c,"]).system.memory.all_bytes(), (2, 0, 1))

    def test_addresses_at_the_bounds(self):
        system = mint(16, READER + ["1 , 2 ,"])
        self.assertEqual(len(system.memory), 6)
        for address, told in ((0, None), (1, 1), (2, 2), (5, 5), (6, None)):
            made = remint(system, [f": x [ {address} address ] ;"])
            if told is None:
                self.assertEqual(made.system[FIRST].body, (("data", 0 if address == 0 else 2), ("exit", 0)))
            else:
                self.assertEqual(made.leaks, (("data", FIRST, told),))
        made = remint(system, ["9 c, : x [ 6 address 7 address ] base ; create y"])
        self.assertEqual([word.body for word in list(made.system)[FIRST:]],
                         [(("data", 2), ("data", 3), ("data", 0), ("exit", 0)), (("data", 3), ("exit", 0))])
        self.assertEqual((made.system[FIRST + 1].address, made.system.memory.all_bytes()), (3, (10, 0, 9)))
        # With the base cell alone there is nothing between.
        made = remint(mint(16, READER), [": x [ 2 address ] base ; 5 c,"])
        self.assertEqual((made.system[FIRST].body, made.system.memory.all_bytes()), ((("data", 2), ("data", 0), ("exit", 0)), (10, 0, 5)))

    def test_a_memory_that_is_shorter_at_the_end(self):
        system = mint(16, READER + ["1 , 2 ,"])
        made = remint(system, ["-3 allot 3 base !"])
        self.assertEqual(made.system.memory.all_bytes(), (3, 0))
        made = remint(system, ["create y -2 allot 7 c, : x [ 5 address ] ;"])
        self.assertEqual(made.leaks, (("data", FIRST + 1, 5),))
        made = remint(system, ["create y 5 c, -4 allot"])
        self.assertEqual((made.system[FIRST].address, made.system[FIRST].body, made.system.memory.all_bytes()), (2, (("data", 2), ("exit", 0)), (10, 0)))
        # Just as long is not shorter, and bytes that are appended again are taken.
        made = remint(system, ["-4 allot 1 c, 2 c, 3 c, 4 c,"])
        self.assertEqual(made.system.memory.all_bytes(), (10, 0))
        made = remint(system, ["-4 allot 1 c, 2 c, 3 c, 4 c, 5 c,"])
        self.assertEqual(made.system.memory.all_bytes(), (10, 0, 5))

    def test_lists(self):
        system = mint(16, READER + ["new-list drop new-list drop"])
        made = remint(system, ["new-list dup also into : x ; 0 into : k ; 4 into : y ;"])
        self.assertEqual((made.system.lists.count, made.system.lists.order, made.system.lists.into), (3, (2, 1, 0), 1))
        self.assertEqual([word.home for word in list(made.system)[FIRST:]], [2, 0, 1])


class Leaks(Base):
    def system(self):
        return mint(16, READER + [": old ; create box 5 , defer later 0 0 : old2 old ;", "new-list drop"])

    def leaks(self, *lines):
        system = self.system()
        before = save(system)
        made = remint(system, list(lines))
        self.assertIs(bool(made), False)
        self.assertIsNone(made.system)
        self.assertEqual(save(system), before)
        return made.leaks

    def number(self, name):
        return self.system().number_of(name)

    def test_words(self):
        old = self.number("old")
        self.assertEqual(self.leaks("1 also : x old dup old ; previous"), (("word", FIRST, old),) * 2)
        self.assertEqual(self.leaks("1 also : x [ ' old literal ] ; : y 1 ; : z x y old2 ; previous"),
                         (("word", FIRST, old), ("word", FIRST + 2, self.number("old2"))))
        self.assertEqual(self.leaks("1 also : x is later ; previous"), (("word", FIRST, self.number("later")),))

    def test_behaviours_and_actions(self):
        old = self.number("old")
        self.assertEqual(self.leaks("1 also create x ' old behave previous"), (("word", FIRST, old),))
        self.assertEqual(self.leaks("defer d 0 0 : sd is d ; 1 also ' old sd previous"), (("word", FIRST, old),))
        self.assertEqual(remint(self.system(), ["create x ' @ behave"]).leaks, ())
        # The action of an older deferred word is cut off with it.
        made = remint(self.system(), [": x ; : set-later 1 drop ; 1 also ' x previous drop"])
        self.assertEqual(made.leaks, ())

    def test_data(self):
        address = self.system()[self.number("box")].address
        self.assertEqual(self.leaks("1 also : x [ box address ] [ 1 address ] base ; previous"), (("data", FIRST, address), ("data", FIRST, 1)))
        # A made word is told once.
        self.assertEqual(self.leaks("-1 allot create x 1 c,"), (("data", FIRST, address + 1),))
        self.assertEqual(self.leaks("-1 allot create x ' @ behave"), (("data", FIRST, address + 1),))

    def test_homes_and_orders(self):
        self.assertEqual(self.leaks("1 into : x ; 3 into"), (("list", FIRST, 1),))
        self.assertEqual(self.leaks("2 into create x 1 into defer y 0 0 3 into : z ;"), (("list", FIRST, 2), ("list", FIRST + 1, 1)))
        self.assertEqual(self.leaks("1 also"), (("order", -1, 1),))
        self.assertEqual(self.leaks("2 also 0 also 1 also 2 into"), (("order", -1, 1), ("order", -1, 2), ("order", -1, 2)))
        self.assertEqual(self.leaks("1 into"), (("order", -1, 1),))
        self.assertEqual(remint(self.system(), ["0 also 3 also 0 into"]).system.lists.order, (1, 0, 1, 0))
        self.assertEqual(remint(self.system(), ["0 also 3 also 0 into"]).system.lists.into, 0)

    def test_markers(self):
        self.assertEqual(self.leaks("marker m"), (("marker", FIRST, -1),))
        self.assertEqual(self.leaks("1 into marker m 3 into marker n"), (("list", FIRST, 1), ("marker", FIRST, -1), ("marker", FIRST + 1, -1)))
        # One that is gone at the end is none.
        made = remint(self.system(), [": x ; marker m : y ; new-list drop 5 , m : z ;"])
        self.assertEqual((save(made.system)[2:], made.leaks), (["bytes 0a00", "plain =x 1 later - exit", "plain =z 1 later - exit", "end"], ()))

    def test_several_together(self):
        old, old2, later = [self.number(name) for name in ("old", "old2", "later")]
        address = self.system()[self.number("box")].address
        told = self.leaks("1 also 1 into : x old [ box address ] old2 is later ; 3 into : y x ; marker m",
                          "defer d 0 0 : sd is d ; ' old sd 2 into create q ' old2 behave 1 into")
        self.assertEqual(told, (("list", FIRST, 1), ("word", FIRST, old), ("data", FIRST, address), ("word", FIRST, old2), ("word", FIRST, later),
                                ("marker", FIRST + 2, -1), ("word", FIRST + 3, old), ("list", FIRST + 5, 2), ("word", FIRST + 5, old2),
                                ("order", -1, 1), ("order", -1, 1)))


class Rounds(Case):
    def test_texts_that_settle_at_0(self):
        for width in (16, 24, 32):
            for lines in (SOURCE, READER, SOURCE + (": more 1 2 + ;", "variable v 5 constant five"), list(SOURCE)):
                images = list(rounds(width, lines))
                self.assertEqual(len(images), 2)
                self.assertEqual(images[0], images[1])
                self.assertEqual(images[0], save(mint(width, lines)))
                self.assertEqual(settles(width, lines), 0)

    def test_another_reader(self):
        lines = [line.replace(": read", ": take") for line in READER]
        self.assertEqual(settles(16, lines, reader="take"), 0)
        self.assertIsNone(settles(16, lines))
        self.assertEqual(list(rounds(16, lines)), [save(mint(16, lines))])

    def settled(self, limit):
        """The images of a text that lets the base go on by one in each turn up to a limit, and where it settles."""
        lines = ANY_BASE + [f"base @ dup #{limit} < - base !"]
        return list(rounds(16, lines)), settles(16, lines)

    def test_texts_that_settle_later_or_never(self):
        for limit, told in ((10, 0), (11, 0), (12, 1), (13, 2), (14, None), (36, None)):
            images, turn = self.settled(limit)
            self.assertEqual(turn, told)
            self.assertEqual(len(images), 4 if told is None else told + 2)
            self.assertEqual(images[-1] == images[-2], told is not None)
            self.assertEqual(len({tuple(image) for image in images}), 4 if told is None else told + 1)

    def test_the_base_in_which_it_is_read_again(self):
        lines = ANY_BASE + [": x 10 ;", "#16 base !"]
        images = list(rounds(16, lines))
        self.assertEqual([image[-2] for image in images], ["plain =x 1 later - lit 10 exit"] + ["plain =x 1 later - lit 16 exit"] * 2)
        self.assertEqual(settles(16, lines), 1)

    def test_texts_with_leaks(self):
        lines = READER + ["marker m"]
        images = list(rounds(16, lines))
        self.assertEqual((len(images), images[0], images[1].__class__), (2, save(mint(16, lines)), tuple))
        self.assertEqual(images[1][0][0], "marker")
        self.assertIsNone(settles(16, lines))

    def test_texts_that_cannot_be_made(self):
        for lines in (["nope"], ["1"], [": x"], ["5 throw"]):
            self.assertEqual((list(rounds(16, lines)), settles(16, lines)), ([], None))
        self.assertEqual((list(rounds(16, [])), settles(16, [])), ([save(System(16))], None))
        # The reader refuses its own text.
        lines = READER[:-1] + [READER[-1].replace("word [", "5 throw word [")]
        self.assertEqual((len(list(rounds(16, lines))), settles(16, lines)), (1, None))
        # It leaves an item, or a definition open.
        lines = [": read [ <mark ] word [ unless> swap <goto >land ] 5 ;"]
        self.assertEqual((len(list(rounds(16, lines))), settles(16, lines)), (1, None))
        lines = READER + ["new-list drop"] * 6
        self.assertEqual((len(list(rounds(16, lines))), settles(16, lines)), (1, None))

    def test_it_is_a_generator(self):
        walk = rounds(16, SOURCE)
        first = next(walk)
        first.append("x")
        self.assertEqual(next(walk), first[:-1])
        self.assertEqual(list(walk), [])
        self.assertEqual(next(rounds(24, READER))[0], "system 24")


if __name__ == "__main__":
    import unittest
    unittest.main()
