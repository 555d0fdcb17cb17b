"""Lists: their numbers, the order, the list for new words, and how names are found."""

from tests.helpers import Case
from wordmint.errors import LastList, NoList, TooMany
from wordmint.forms import Word
from wordmint.lists import Lists, find, seen

NO_LISTS = (True, False, None, -1, 2, 8, "1", (1,), 1.0)


def words_of(*pairs):
    """Words of these names and homes."""
    return [Word(name, home, "plain", False, (("exit", 0),), None, None) for name, home in pairs]


class Numbers(Case):
    def test_at_the_beginning(self):
        lists = Lists()
        self.assertEqual((lists.count, lists.order, lists.into), (2, (1, 0), 1))
        self.assertIs(lists.order.__class__, tuple)

    def test_new_lists_up_to_the_eighth(self):
        lists = Lists()
        self.assertEqual([lists.new() for _ in range(6)], [2, 3, 4, 5, 6, 7])
        self.assertEqual((lists.count, lists.order, lists.into), (8, (1, 0), 1))
        self.fails(TooMany, 8, lists.new)
        self.assertEqual(lists.count, 8)

    def test_also(self):
        lists = Lists()
        self.assertIsNone(lists.also(0))
        self.assertEqual(lists.order, (0, 1, 0))
        lists.also(0)
        self.assertEqual(lists.order, (0, 0, 1, 0))
        lists.new()
        lists.also(2)
        self.assertEqual((lists.order, lists.count, lists.into), ((2, 0, 0, 1, 0), 3, 1))

    def test_an_order_of_eight(self):
        lists = Lists()
        for _ in range(6):
            lists.also(1)
        self.assertEqual(lists.order, (1,) * 7 + (0,))
        self.fails(TooMany, 8, lists.also, 1)
        self.fails(NoList, 2, lists.also, 2)
        self.assertEqual(lists.order, (1,) * 7 + (0,))
        lists.previous()
        lists.also(0)
        self.assertEqual(lists.order, (0,) + (1,) * 6 + (0,))

    def test_previous(self):
        lists = Lists()
        self.assertIsNone(lists.previous())
        self.assertEqual(lists.order, (0,))
        self.fails(LastList, 0, lists.previous)
        self.assertEqual(lists.order, (0,))
        lists = Lists()
        lists.also(1)
        lists.previous()
        self.assertEqual(lists.order, (1, 0))
        lists.order = (1,)
        self.fails(LastList, 1, lists.previous)

    def test_begin(self):
        lists = Lists()
        self.assertIsNone(lists.begin(0))
        self.assertEqual((lists.into, lists.order, lists.count), (0, (1, 0), 2))
        lists.begin(lists.new())
        self.assertEqual(lists.into, 2)

    def test_things_that_are_no_lists(self):
        for number in NO_LISTS:
            lists = Lists()
            self.fails(NoList, number, lists.also, number)
            self.fails(NoList, number, lists.begin, number)
            self.assertEqual((lists.count, lists.order, lists.into), (2, (1, 0), 1))

    def test_in_and_iteration(self):
        lists = Lists()
        lists.new()
        lists.also(0)
        self.assertEqual(list(lists), [0, 1, 0])
        self.assertEqual([number in lists for number in (0, 1, 2, -1, 8)], [True, True, False, False, False])
        self.assertEqual([thing in lists for thing in (True, False, None, "0")], [False] * 4)
        lists.previous()
        lists.previous()
        self.assertEqual((list(lists), 1 in lists, 0 in lists), ([0], False, True))

    def test_equal_and_copies(self):
        lists = Lists()
        self.assertEqual(lists, Lists())
        self.assertFalse(lists == "lists")
        for change in (lambda each: each.new(), lambda each: each.also(0), lambda each: each.begin(0),
                       lambda each: each.previous()):
            other = lists.copy()
            self.assertEqual(lists, other)
            change(other)
            self.assertFalse(lists == other)
            self.assertEqual(other, other.copy())
            self.assertEqual((lists.count, lists.order, lists.into), (2, (1, 0), 1))


class Names(Case):
    def test_the_first_list_of_the_order(self):
        words = words_of(("a", 0), ("b", 0), ("a", 1), ("c", 2))
        self.assertEqual([find(words, (1, 0), name) for name in "abc"], [2, 1, None])
        self.assertEqual([find(words, (0, 1), name) for name in "abc"], [0, 1, None])
        self.assertEqual([find(words, (2,), name) for name in "abc"], [None, None, 3])
        self.assertEqual([find(words, (0, 0, 1, 2), name) for name in "abc"], [0, 1, 3])

    def test_the_greatest_number_of_a_list(self):
        words = words_of(("a", 1), ("a", 1), ("a", 0), ("a", 1), ("b", 1))
        self.assertEqual(find(words, (1, 0), "a"), 3)
        self.assertEqual(find(words, (0, 1), "a"), 2)
        self.assertEqual(find(words, (2, 1, 1), "a"), 3)

    def test_nameless_words_and_no_words(self):
        words = words_of(("", -1), ("", 1), ("a", -1))
        self.assertIsNone(find(words, (1, 0), ""))
        self.assertIsNone(find(words, (1, 0), "a"))
        self.assertIsNone(find([], (1, 0), "a"))
        self.assertEqual(seen(words, (1, 0)), ())

    def test_seen(self):
        words = words_of(("a", 0), ("b", 0), ("a", 1), ("a", 1), ("", 1), ("c", 2), ("b", 2), ("d", 1))
        self.assertEqual(seen(words, (1, 0)), (1, 3, 7))
        self.assertEqual(seen(words, (0, 1)), (0, 1, 7))
        self.assertEqual(seen(words, (2, 0, 1, 2)), (0, 5, 6, 7))
        self.assertEqual(seen(words, (3,)), ())
        self.assertIs(seen(words, (1,)).__class__, tuple)

    def test_seen_is_what_is_found(self):
        names = [("abc"[at % 3], at % 4) for at in range(40)]
        words = words_of(*names)
        for order in ((0,), (3, 1), (1, 1, 2), (0, 1, 2, 3, 0, 1, 2, 3)):
            wanted = {find(words, order, name) for name, home in names if find(words, order, name) is not None}
            self.assertEqual(seen(words, order), tuple(sorted(wanted)))
