"""The machine: it runs a word of a store, one instruction at a step."""

from wordmint.acts import ACTS, are_kinds, shape
from wordmint.cells import check_number, is_between, is_number
from wordmint.errors import BadItem, BadRoom, Thrown
from wordmint.frames import Frame, Halt
from wordmint.moves import MOVES
from wordmint.stores import is_word, need_word

LEAST_DATA = 8
MOST_DATA = 200
MOST_FRAMES = 200


def is_item(store, thing):
    """Whether it is a number of the width or a token of a word of the store."""
    if isinstance(thing, tuple):
        return len(thing) == 1 and is_word(store, thing[0])
    return is_number(store.width, thing)


def check_rooms(data, frames, length):
    """Raises BadRoom unless a machine whose stack has this length may have these rooms."""
    if not is_between(data, max(LEAST_DATA, length), MOST_DATA):
        raise BadRoom(data)
    if not is_between(frames, 1, MOST_FRAMES):
        raise BadRoom(frames)


def check_run(store, number, stack, feed):
    """Raises NoWord, BadItem or BadNumber unless a run of the word may begin with this stack and this feed."""
    need_word(store, number)
    for item in stack:
        if not is_item(store, item):
            raise BadItem(item)
    for given in feed:
        check_number(store.width, given)


class Machine:
    """A run of a word: a stack, a feed, an output and frames.

    A machine that is made like another one stands where that one stands; number, stack and feed do not count then.
    """

    def __init__(self, store, number, *, stack=(), feed=(), actions=None, data=64, frames=48, like=None):
        if like is None:
            check_run(store, number, stack, feed)
            check_rooms(data, frames, len(stack))
        self.store = store
        self.actions = actions
        self.data = data
        self.frames = frames
        if like is None:
            self.kind = "runs"
            self.number = 0
            self.steps = 0
            self.output = ""
            self.pile = list(stack)
            self.given = list(feed)
            self.calls = [self.new_frame(number, None)]
        else:
            self.stand_as(like)

    def stand_as(self, other):
        """Stands where another machine stands; store, actions and rooms stay."""
        self.kind = other.kind
        self.number = other.number
        self.steps = other.steps
        self.output = other.output
        self.pile = list(other.pile)
        self.given = list(other.given)
        self.calls = [frame.copy() for frame in list(other.calls)]

    def start(self, number):
        """Begins to run a word with what is there, whatever ran until now."""
        self.kind = "runs"
        self.calls = [self.new_frame(number, None)]

    def take(self, item):
        """Leaves an item on the stack; whether there was room."""
        if len(self.pile) >= self.data:
            return False
        self.pile.append(item)
        return True

    def code_for(self, number):
        """The code by which a frame of the word runs, or None if it runs by the body, as all frames do here."""
        return None

    def new_frame(self, number, kept):
        """A frame in which a word begins."""
        return Frame(number, kept, self.code_for(number))

    @property
    def stack(self):
        """The tuple of the items, the top last."""
        return tuple(self.pile)

    @property
    def feed(self):
        """The tuple of the numbers that are left for ask, the next one first."""
        return tuple(self.given)

    def step(self):
        """Does one instruction, if the machine runs; its kind."""
        if self.kind != "runs":
            return self.kind
        try:
            self.do_next(self.calls[-1])
        except Halt as halt:
            self.kind = halt.kind
            return self.kind
        except Thrown as thrown:
            self.fail(thrown.number)
        self.steps += 1
        return self.kind

    def do_next(self, frame):
        """Does what is next in the last frame; throws or halts if it cannot be done."""
        self.do(frame, self.store.words[frame.number].body[frame.place])

    def do(self, frame, instruction):
        """Does an instruction in the last frame; throws or halts if it cannot be done."""
        op, arg = instruction
        move = MOVES.get(op)
        kinds, leaves = shape(op, arg)
        if move is not None:
            self.due(kinds, leaves)
            move(self, frame, arg)
            return
        act = self.act_for(op)
        taken = self.due(kinds, leaves)
        left = act(self, instruction, taken)
        base = len(self.pile) - len(taken)
        self.pile[base:] = left
        frame.place += 1

    def act_for(self, op):
        """What does an op that is no move; a machine without building acts throws an error for each of these."""
        act = ACTS.get(op)
        if act is None:
            if self.actions is None:
                raise Thrown(-11)
            act = self.actions[op]
        return act

    def due(self, kinds, leaves):
        """The items that an instruction takes; throws or halts if they, or the room for more, are not there."""
        base = len(self.pile) - len(kinds)
        if base < 0:
            raise Thrown(-1)
        taken = tuple(self.pile[base:])
        if not are_kinds(kinds, taken):
            raise Thrown(-4)
        if leaves > len(kinds) and base + leaves > self.data:
            raise Halt("over")
        return taken

    def fail(self, number):
        """Ends frames up to one that has kept items, or the run."""
        while self.calls:
            kept = self.calls.pop().kept
            if kept is not None:
                self.pile = [*kept, number]
                return
        self.pile = []
        self.kind = "error"
        self.number = number

    def go(self, steps):
        """Does at most so many steps, as long as the machine runs; its kind."""
        for _ in range(steps):
            if self.kind != "runs":
                break
            self.step()
        return self.kind

    def give(self, numbers):
        """Appends numbers to the feed."""
        for given in numbers:
            check_number(self.store.width, given)
        self.given.extend(list(numbers))
        if self.kind == "asks" and self.given:
            self.kind = "runs"

    def at(self):
        """The word and the place of the last frame, or None if there is none."""
        if not self.calls:
            return None
        return (self.calls[-1].number, self.calls[-1].place)

    def view(self):
        """The kind, the error's number, the stack, and the frames."""
        return (self.kind, self.number, self.stack, tuple([frame.view() for frame in self.calls]))

    def copy(self):
        """A machine at the same moment, with a copy of the store, that goes its own way."""
        return Machine(self.store.copy(), 0, actions=self.actions, data=self.data, frames=self.frames, like=self)

    def moments(self, steps):
        """Yields the word and place and then does a step, at most so many times, as long as the machine runs."""
        for _ in range(steps):
            if self.kind != "runs":
                return
            yield self.at()
            self.step()


def ended(store, number, *stack, feed=(), steps=20000):
    """A machine without building acts on a copy of the store, behind at most so many steps."""
    machine = Machine(store.copy(), number, stack=stack, feed=feed)
    machine.go(steps)
    return machine


class Rooms:
    """A context within which a machine has other rooms."""

    def __init__(self, machine, data, frames):
        check_rooms(data, frames, len(machine.stack))
        self.machine = machine
        self.data = data
        self.frames = frames
        self.data_before = machine.data
        self.frames_before = machine.frames

    def __enter__(self):
        self.data_before = self.machine.data
        self.frames_before = self.machine.frames
        self.machine.data = self.data
        self.machine.frames = self.frames
        return self

    def __exit__(self, kind, value, trace):
        machine = self.machine
        machine.data = self.data_before
        machine.frames = self.frames_before


def within(machine, steps, *, data, frames):
    """Goes at most so many steps with other rooms; the machine's kind."""
    with Rooms(machine, data, frames):
        machine.go(steps)
    return machine.kind
