"""The machine: it runs a word of a store, one instruction at a step."""

from wordmint.acts import ACTS, shape
from wordmint.cells import check_number, is_between, is_number
from wordmint.errors import BadItem, BadRoom, Thrown
from wordmint.frames import Frame, Halt
from wordmint.moves import MOVES
from wordmint.stores import is_word, need_word

LEAST_DATA = 8
MOST_DATA = 200
MOST_FRAMES = 200


def is_item(store, thing):
    """Whether it is a number of the width or a token of a word of the store."""
    if isinstance(thing, tuple):
        return len(thing) == 1 and is_word(store, thing[0])
    return is_number(store.width, thing)


def check_rooms(data, frames, length):
    """Raises BadRoom unless a machine whose stack has this length may have these rooms."""
    if not is_between(data, max(LEAST_DATA, length), MOST_DATA):
        raise BadRoom(data)
    if not is_between(frames, 1, MOST_FRAMES):
        raise BadRoom(frames)


def are_kinds(kinds, taken):
    """Whether the items are of these kinds."""
    for at, kind in enumerate(kinds):
        if kind != "x" and isinstance(taken[at], tuple) != (kind == "t"):
            return False
    return True


class Machine:
    """A run of a word: a stack, a feed, an output and frames."""

    def __init__(self, store, number, *, stack=(), feed=(), actions=None, data=64, frames=48):
        need_word(store, number)
        for item in stack:
            if not is_item(store, item):
                raise BadItem(item)
        for given in feed:
            check_number(store.width, given)
        check_rooms(data, frames, len(stack))
        self.store = store
        self.actions = actions
        self.kind = "runs"
        self.number = 0
        self.steps = 0
        self.output = ""
        self.data = data
        self.frames = frames
        self.pile = list(stack)
        self.given = list(feed)
        self.calls = [Frame(number)]

    @property
    def stack(self):
        """The tuple of the items, the top last."""
        return tuple(self.pile)

    @property
    def feed(self):
        """The tuple of the numbers that are left for ask, the next one first."""
        return tuple(self.given)

    def step(self):
        """Does one instruction, if the machine runs; its kind."""
        if self.kind != "runs":
            return self.kind
        frame = self.calls[-1]
        try:
            self.do(frame, self.store.words[frame.number].body[frame.place])
        except Halt as halt:
            self.kind = halt.kind
            return self.kind
        except Thrown as thrown:
            self.fail(thrown.number)
        self.steps += 1
        return self.kind

    def do(self, frame, instruction):
        """Does an instruction of the last frame; throws or halts if it cannot be done."""
        op, arg = instruction
        move = MOVES.get(op)
        act = ACTS.get(op)
        if move is None and act is None:
            # The error is due ahead of all looks at the stack.
            if self.actions is None:
                raise Thrown(-11)
            act = self.actions[op]
        kinds, leaves = shape(op, arg)
        taken = self.due(kinds, leaves)
        if move is not None:
            move(self, frame, arg)
            return
        base = len(self.pile) - len(taken)
        left = act(self, instruction, taken)
        self.pile[base:] = left
        frame.place += 1

    def due(self, kinds, leaves):
        """The items that an instruction takes; throws or halts if they, or the room for more, are not there."""
        base = len(self.pile) - len(kinds)
        if base < 0:
            raise Thrown(-1)
        taken = tuple(self.pile[base:])
        if not are_kinds(kinds, taken):
            raise Thrown(-4)
        if leaves > len(kinds) and base + leaves > self.data:
            raise Halt("over")
        return taken

    def fail(self, number):
        """Ends frames up to one that has kept items, or the run."""
        while self.calls:
            kept = self.calls.pop().kept
            if kept is not None:
                self.pile = [*kept, number]
                return
        self.pile = []
        self.kind = "error"
        self.number = number

    def go(self, steps):
        """Does at most so many steps, as long as the machine runs; its kind."""
        for _ in range(steps):
            if self.kind != "runs":
                break
            self.step()
        return self.kind

    def give(self, numbers):
        """Appends numbers to the feed."""
        for given in numbers:
            check_number(self.store.width, given)
        self.given.extend(list(numbers))
        if self.kind == "asks" and self.given:
            self.kind = "runs"

    def at(self):
        """The word and the place of the last frame, or None if there is none."""
        if not self.calls:
            return None
        return (self.calls[-1].number, self.calls[-1].place)

    def view(self):
        """The kind, the error's number, the stack, and the frames."""
        return (self.kind, self.number, self.stack, tuple([frame.view() for frame in self.calls]))

    def copy(self):
        """A machine at the same moment, with a copy of the store, that goes its own way."""
        other = Machine(self.store.copy(), 0, actions=self.actions, data=self.data, frames=self.frames)
        other.kind = self.kind
        other.number = self.number
        other.steps = self.steps
        other.output = self.output
        other.pile = list(self.pile)
        other.given = list(self.given)
        other.calls = [frame.copy() for frame in self.calls]
        return other

    def moments(self, steps):
        """Yields the word and place and then does a step, at most so many times, as long as the machine runs."""
        for _ in range(steps):
            if self.kind != "runs":
                return
            yield self.at()
            self.step()


def ended(store, number, *stack, feed=(), steps=20000):
    """A machine without building acts on a copy of the store, behind at most so many steps."""
    machine = Machine(store.copy(), number, stack=stack, feed=feed)
    machine.go(steps)
    return machine


class Rooms:
    """A context within which a machine has other rooms."""

    def __init__(self, machine, data, frames):
        check_rooms(data, frames, len(machine.stack))
        self.machine = machine
        self.data = data
        self.frames = frames
        self.data_before = machine.data
        self.frames_before = machine.frames

    def __enter__(self):
        self.data_before = self.machine.data
        self.frames_before = self.machine.frames
        self.machine.data = self.data
        self.machine.frames = self.frames
        return self

    def __exit__(self, kind, value, trace):
        machine = self.machine
        machine.data = self.data_before
        machine.frames = self.frames_before


def within(machine, steps, *, data, frames):
    """Goes at most so many steps with other rooms; the machine's kind."""
    with Rooms(machine, data, frames):
        machine.go(steps)
    return machine.kind
