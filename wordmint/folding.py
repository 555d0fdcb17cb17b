"""Folding: the rules that exchange two or three instructions for fewer ones.

The instructions are kept in a chain, from which they are taken out; a goto or unless keeps the number of the
instruction that it leads to, and one that leads to an instruction that was taken out leads to the next one that stays.
"""

from wordmint.cells import ARITHMETIC, SINGLE, result_of
from wordmint.effects import least_row
from wordmint.errors import ByZero
from wordmint.forms import PLACE_OPS

PURE_OPS = ("lit", "data", "token", "dup", "over", "r@", "local")
ANSWER_OPS = ("unless", "throw")
END_OPS = ("exit", "jump")
WORD_ENDS = ("call", "jump")
# What fits at an instruction: how many instructions stand there, and the one that stays, if one does.
NO_FIT = (0, None)


class Folding:
    """A body that is being folded."""

    def __init__(self, width, words, body):
        self.width = width
        self.words = words
        self.rows = list(body)
        count = len(body)
        # The numbers of the instructions ahead of and behind each one that stays; count stands for the end.
        self.ahead = list(range(-1, count))
        self.behind = list(range(1, count + 1))
        # What comes in the place of each instruction that was taken out, and how many gotos lead to each that stays.
        self.moved = {}
        self.landings = [0] * (count + 1)
        for op, arg in list(body):
            if op in PLACE_OPS:
                self.landings[arg] += 1
        # Which way the least row goes at each unless that it comes to, or None as long as no row is known.
        self.ways = None
        # Whether an exit is come to, by however long a row; rules only take ways away.
        self.may_end = comes_to_exit(words, body)
        # The literals ahead of unlesses that stay as the row behind the rule would be too long so far.
        self.waiting = []

    def stays(self, number):
        """The instruction itself, or the next one that stays."""
        last = number
        while last in self.moved:
            last = self.moved[last]
        while number != last:
            further = self.moved[number]
            self.moved[number] = last
            number = further
        return last

    def rows_left(self):
        """The numbers of the instructions that stay, in order."""
        numbers = []
        number = self.stays(0)
        while number < len(self.rows):
            numbers.append(number)
            number = self.behind[number]
        return numbers

    def body_of(self, numbers):
        """The body of the instructions that stay."""
        places = {number: place for place, number in enumerate(numbers)}
        body = []
        for number in list(numbers):
            op, arg = self.rows[number]
            body.append((op, places[self.stays(arg)]) if op in PLACE_OPS else (op, arg))
        return tuple(body)

    def result(self):
        """The body as it is now."""
        return self.body_of(self.rows_left())

    def ways_of(self, body, numbers):
        """Which way the least row of a body goes at each unless that it comes to, or None if there is no row."""
        row = least_row(self.words, body)
        if row is None:
            return None
        ways = {}
        place = 0
        at = 0
        while body[place][0] not in END_OPS:
            op, arg = body[place]
            if op == "unless":
                ways[numbers[place]] = row[at]
            leads = op == "goto" or (op == "unless" and row[at] == 0)
            place = arg if leads else place + 1
            at += self.answers(op, arg)
        return ways

    def answers(self, op, arg):
        """How many answers of a row an instruction takes, if the row goes on behind it."""
        if op == "call":
            return len(self.words[arg].verdict.row)
        return 1 if op in ANSWER_OPS else 0

    def fit(self, number):
        """The rule that fits at an instruction: how many instructions it takes, and the one that it leaves."""
        second = self.behind[number]
        if second == len(self.rows) or self.landings[second] > 0:
            return NO_FIT
        one = self.rows[number]
        two = self.rows[second]
        if two[0] == "drop" and one[0] in PURE_OPS:
            return (2, None)
        if one[0] == "swap" and two[0] == "swap":
            return (2, None)
        if one[0] != "lit":
            return NO_FIT
        if two[0] in SINGLE:
            return (2, ("lit", result_of(self.width, two[0], (one[1],))))
        if two[0] == "lit":
            return self.fit_three(one[1], two[1], self.behind[second])
        if two[0] == "throw" and one[1] == 0:
            return (2, None)
        if two[0] == "unless":
            return self.fit_unless(number, second)
        return NO_FIT

    def fit_three(self, left, right, third):
        """The rule for two literals and an act."""
        if third == len(self.rows) or self.landings[third] > 0:
            return NO_FIT
        op = self.rows[third][0]
        if op not in ARITHMETIC or op in SINGLE:
            return NO_FIT
        try:
            return (3, ("lit", result_of(self.width, op, (left, right))))
        except ByZero:
            return NO_FIT

    def fit_unless(self, number, second):
        """The rule for a literal and an unless, which must not take the row from the body."""
        value = self.rows[number][1]
        place = self.rows[second][1]
        answer = 0 if value == 0 else 1
        fold = (2, ("goto", place) if value == 0 else None)
        if self.ways is None and self.may_end:
            numbers = self.rows_left()
            self.ways = self.ways_of(self.body_of(numbers), numbers)
        if self.ways is None or self.ways.get(second, answer) == answer:
            return fold
        # The least row goes the other way; there may be another one.
        kept = self.rows[second]
        self.rows[second] = ("goto", place if value == 0 else self.behind[second])
        numbers = self.rows_left()
        body = self.body_of(numbers)
        self.rows[second] = kept
        ways = self.ways_of(body, numbers)
        if ways is not None:
            self.ways = ways
            return fold
        if comes_to_exit(self.words, body):
            self.waiting.append(number)
        return NO_FIT

    def take_out(self, number):
        """Takes an instruction out of the chain."""
        ahead = self.ahead[number]
        behind = self.behind[number]
        if ahead >= 0:
            self.behind[ahead] = behind
        if behind < len(self.rows):
            self.ahead[behind] = ahead
        self.moved[number] = behind
        self.landings[behind] += self.landings[number]

    def before(self, number):
        """The instruction from which on the rules look at this one."""
        for _ in range(2):
            if self.ahead[number] >= 0:
                number = self.ahead[number]
        return number

    def apply(self, number, count, row):
        """Applies the rule that fits at an instruction; the first one at which a rule may fit now."""
        second = self.behind[number]
        op, place = self.rows[second]
        freed = number
        if op == "unless" and row is None:
            freed = self.stays(place)
            self.landings[freed] -= 1
        for _ in range(count - 1):
            self.take_out(self.behind[number])
        if row is None:
            self.take_out(number)
        else:
            self.rows[number] = row
        numbers = [self.before(self.stays(number)), self.before(self.stays(freed))]
        if op in ANSWER_OPS:
            # Rows are shorter now.
            numbers.extend(self.waiting)
            self.waiting = []
        return min(numbers)


def comes_to_exit(words, body):
    """Whether a way that no recurse is on comes to an exit, however long its row is."""
    seen = {}
    waiting = [0]
    while waiting:
        place = waiting.pop()
        if place in seen:
            continue
        seen[place] = True
        op, arg = body[place]
        if op in WORD_ENDS and not returns(words, arg):
            continue
        if op in END_OPS:
            return True
        if op in PLACE_OPS:
            waiting.append(arg)
        if op not in ("goto", "recurse"):
            waiting.append(place + 1)
    return False


def returns(words, number):
    """Whether a word has a row."""
    verdict = words[number].verdict
    return verdict.effect is not None and verdict.row is not None


def folded(width, words, body):
    """The body behind all rules that fit."""
    folding = Folding(width, words, body)
    number = 0
    while number < len(folding.rows):
        count, row = folding.fit(number)
        number = folding.apply(number, count, row) if count > 0 else folding.behind[number]
    return folding.result()
