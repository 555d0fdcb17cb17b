"""Words that move to other numbers, lists and addresses."""

from wordmint.effects import Refusal
from wordmint.forms import WORD_OPS, Word


class Move:
    """Where words and lists go, by their numbers, and by how much addresses from one on go down.

    Lists that are not told of stay. What is asked for must have a place to go to.
    """

    def __init__(self, numbers, lists, first, down):
        self.numbers = numbers
        self.lists = lists
        self.first = first
        self.down = down

    def number_of(self, number):
        """The number that a word gets; None for None."""
        return None if number is None else self.numbers[number]

    def home_of(self, home):
        """The number that a list gets."""
        return self.lists.get(home, home)

    def address_of(self, address):
        """The address to which one goes; None for None."""
        return address if address is None or address < self.first else address - self.down

    def has_item(self, item):
        """Whether it is a number, or a token of a word that has a place to go to."""
        return not isinstance(item, tuple) or item[0] in self.numbers

    def item_of(self, item):
        """An item with the word of a token as it is then."""
        return (self.numbers[item[0]],) if isinstance(item, tuple) else item

    def row_of(self, row):
        """An instruction with its word or its address as they are then."""
        op, arg = row
        if op in WORD_OPS:
            return (op, self.numbers[arg])
        return (op, self.address_of(arg)) if op == "data" else row

    def rows_of(self, rows):
        """Instructions with their words and addresses as they are then."""
        return [self.row_of(row) for row in rows]

    def verdict_of(self, verdict):
        """A verdict that tells of another word by the number that it gets; words that move keep theirs."""
        if not isinstance(verdict, Refusal):
            return verdict
        return Refusal(verdict.kind, verdict.place, verdict.row, verdict.other, self.number_of(verdict.number),
                       verdict.need)

    def word_of(self, word, keeps):
        """A word as it is then; keeps is what a marker keeps."""
        return Word(word.name, self.home_of(word.home), word.kind, word.immediate, tuple(self.rows_of(word.body)),
                    word.declared, self.verdict_of(word.verdict), address=self.address_of(word.address),
                    behaviour=self.number_of(word.behaviour), action=self.number_of(word.action), keeps=keeps)
