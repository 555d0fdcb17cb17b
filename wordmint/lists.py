"""The lists that words stand in, and how a word is found by its name."""

from wordmint.cells import is_between, is_integer
from wordmint.errors import LastList, NoList, TooMany

MOST_LISTS = 8
LONGEST_ORDER = 8


class Lists:
    """How many lists there are, the order in which they are searched, and the list that new words come into."""

    def __init__(self, count=2, order=(1, 0), into=1):
        self.count = count
        self.order = order
        self.into = into

    def need_list(self, number):
        """Raises NoList unless there is a list with this number."""
        if not is_between(number, 0, self.count - 1):
            raise NoList(number)

    def new(self):
        """Makes a list; its number."""
        if self.count >= MOST_LISTS:
            raise TooMany(MOST_LISTS)
        self.count += 1
        return self.count - 1

    def also(self, number):
        """Puts a list in front of the order."""
        self.need_list(number)
        if len(self.order) >= LONGEST_ORDER:
            raise TooMany(LONGEST_ORDER)
        self.order = (number, *self.order)

    def previous(self):
        """Drops the front of the order."""
        if len(self.order) == 1:
            raise LastList(self.order[0])
        self.order = self.order[1:]

    def begin(self, number):
        """Lets new words come into a list."""
        self.need_list(number)
        self.into = number

    def __contains__(self, x):
        return is_integer(x) and x in self.order

    def __iter__(self):
        return iter(self.order)

    def __eq__(self, other):
        return (isinstance(other, Lists) and self.count == other.count and self.order == other.order
                and self.into == other.into)

    def copy(self):
        """Lists like these that go their own way."""
        return Lists(self.count, self.order, self.into)


def find(words, order, name):
    """The number of the word that the order finds by this name, or None."""
    if name == "":
        return None
    # For each list the greatest number of a word of this name.
    found = {words[number].home: number for number in [at for at, word in enumerate(words) if word.name == name]}
    for home in order:
        if home in found:
            return found[home]
    return None


def seen(words, order):
    """The ascending tuple of the numbers of all words that the order finds by their names."""
    found = {}
    for home in order:
        for number in range(len(words) - 1, -1, -1):
            word = words[number]
            if word.home == home and word.name != "" and word.name not in found:
                found[word.name] = number
    return tuple(sorted(list(found.values())))
