"""Engines: machines that run words by code for registers, as long as the words are those that the code was made of."""

from wordmint.caching import check_registers, made
from wordmint.errors import BadRow, NotChecked
from wordmint.judging import judge
from wordmint.machine import Machine
from wordmint.rows import Parts, do_row
from wordmint.stores import is_word, need_word

CALLING = ("call", "jump")


def is_same_summary(one, other):
    """Whether two words have the same summary, or both have none."""
    if one.effect is None or other.effect is None:
        return one.effect is None and other.effect is None
    return one.verdict == other.verdict


class Coded:
    """The code of a word with its paper, and the words that must be as they are for the code to be run."""

    def __init__(self, words, number, rows, paper):
        self.number = number
        self.rows = rows
        self.paper = paper
        self.lines = [Parts(row) for row in rows]
        self.subject = words[number]
        self.called = {arg: words[arg] for op, arg in self.subject.body if op in CALLING}

    def holds(self, words):
        """Whether the word's body and the summaries are still those from which the code was made."""
        word = words[self.number]
        # Words are never changed, so most often they are the very same.
        if word != self.subject and (word.body != self.subject.body or not is_same_summary(word, self.subject)):
            return False
        for number, older in self.called.items():
            if words[number] != older and not is_same_summary(words[number], older):
                return False
        return True


class Program:
    """The code of all words of a store that are let by."""

    def __init__(self, store, registers=4):
        check_registers(registers)
        self.registers = registers
        self.kept = store.copy()
        self.codes = {}
        for number, word in enumerate(list(self.kept.words)):
            if word.effect is not None:
                rows, paper = made(self.kept, number, registers)
                self.codes[number] = Coded(self.kept.words, number, rows, paper)
        self.numbers = list(self.codes)

    def __getitem__(self, at):
        need_word(self.kept, at)
        if at not in self.codes:
            raise NotChecked(at)
        return (self.codes[at].rows, self.codes[at].paper)

    def __contains__(self, x):
        return is_word(self.kept, x) and x in self.codes

    def __iter__(self):
        return iter(self.numbers)

    def put(self, number, rows, paper):
        """Takes this code and this paper for those of a word."""
        bad = judge(self.kept, number, rows, paper, self.registers)
        if bad is not None:
            raise BadRow(bad)
        self.codes[number] = Coded(self.kept.words, number, rows, paper)


class Engine(Machine):
    """A machine that runs words by the codes that a program had when the engine was made."""

    def __init__(self, program, store, number, *, stack=(), feed=(), actions=None, data=64, frames=48, like=None):
        self.codes = dict(program.codes)
        super().__init__(store, number, stack=stack, feed=feed, actions=actions, data=data, frames=frames, like=like)

    def code_for(self, number):
        """The code by which a frame of the word runs, or None if it runs by the body."""
        code = self.codes.get(number)
        if code is None or not code.holds(self.store.words):
            return None
        return code

    def do_next(self, frame):
        """Does the row or the instruction that is next in the last frame; throws or halts if it cannot be done."""
        if frame.code is None:
            super().do_next(frame)
        else:
            do_row(self, frame, frame.code.lines[frame.place])

    def at(self):
        """The word and the place of the last frame, or None; a row is the place of a frame that runs by code."""
        return super().at()

    def view(self):
        """The kind, the error's number, the stack, and the frames; a row is the place of one that runs by code."""
        return super().view()

    def by_code(self):
        """For each frame whether it runs by code."""
        return tuple([frame.code is not None for frame in self.calls])

    def copy(self):
        """An engine at the same moment, with a copy of the store and the same codes, that goes its own way."""
        return Engine(self, self.store.copy(), 0, actions=self.actions, data=self.data, frames=self.frames, like=self)
