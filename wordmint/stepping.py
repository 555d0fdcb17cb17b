"""The tracer: it goes with a machine, forward step by step and back again, and tells why it stops."""

from wordmint.cells import check_number, is_between, is_integer
from wordmint.errors import BadAddress, BadMoment, NoBreak
from wordmint.memory import LONGEST
from wordmint.stores import need_word

MOST_STEPS = 20000
ENDED_KINDS = ("done", "error", "over", "deep")
# How many steps lie between two kept machines at first, and how many of these there may be.
FIRST_STRIDE = 32
MOST_KEPT = 256
# No moment, and no count of frames.
NEVER = -1
# More than any stack or any count of frames needs: steps that were done once are done again with these rooms.
ENDLESS = 1000000


def check_watch(address):
    """Raises BadAddress unless a byte may be watched at the address."""
    if not is_between(address, 0, LONGEST - 1):
        raise BadAddress(address)


def check_break(tracer, number, place):
    """Raises NoWord or NoBreak unless the word has the place."""
    store = tracer.machine.store
    need_word(store, number)
    if not is_between(place, 0, len(store.words[number].body) - 1):
        raise NoBreak(place)


def up_to(table, moment):
    """What a table has for the moments up to this one."""
    return {at: table[at] for at in table if at <= moment}


def every(table, stride):
    """What a table has for the moments that the stride divides."""
    return {at: table[at] for at in table if at % stride == 0}


class Tracer:
    """What goes with a machine: its moment, breaks and watches, and what going back needs."""

    def __init__(self, machine):
        self.machine = machine
        self.now = 0
        self.stopping = {}
        self.watching = {}
        # Numbers that were given, by the moment from which on they are there.
        self.gifts = {}
        # Machines as they were when some moments were come to, ahead of what was given there.
        self.kept = {0: machine.copy()}
        self.stride = FIRST_STRIDE

    @property
    def moment(self):
        """The steps that were gone forward, less those that were gone back."""
        return self.now

    @property
    def breaks(self):
        """The ascending tuple of the breaks, pairs of a word's number and a place."""
        return tuple(sorted(self.stopping))

    @property
    def watches(self):
        """The ascending tuple of the addresses of the bytes that are watched."""
        return tuple(sorted(self.watching))

    def add_break(self, number, place):
        """Stops from now on where a word comes to a place."""
        check_break(self, number, place)
        self.stopping[(number, place)] = True

    def drop_break(self, number, place):
        """Stops there no longer."""
        check_break(self, number, place)
        if (number, place) not in self.stopping:
            raise NoBreak(place)
        del self.stopping[(number, place)]

    def watch(self, address):
        """Stops from now on where the byte at an address changes."""
        check_watch(address)
        self.watching[address] = True

    def unwatch(self, address):
        """Stops there no longer."""
        check_watch(address)
        if address in self.watching:
            del self.watching[address]

    def give(self, numbers):
        """Gives numbers to the machine, from this moment on."""
        for number in numbers:
            check_number(self.machine.store.width, number)
        if len(numbers) == 0:
            return
        self.gifts = up_to(self.gifts, self.now)
        self.kept = up_to(self.kept, self.now)
        self.gifts[self.now] = (*self.gifts.get(self.now, ()), *numbers)
        self.machine.give(numbers)

    def seen(self):
        """The bytes that are watched; None for one that is not there."""
        memory = self.machine.store.memory
        length = len(memory)
        return [memory[address] if address < length else None for address in self.watching]

    def advance(self):
        """Does one step of the machine; whether it was done."""
        machine = self.machine
        steps = machine.steps
        machine.step()
        if machine.steps == steps:
            return False
        self.now += 1
        if self.now % self.stride == 0 and self.now not in self.kept:
            self.keep()
        if self.now in self.gifts:
            machine.give(self.gifts[self.now])
        return True

    def keep(self):
        """Keeps the machine as it is; if there are too many by now, only every other one stays."""
        if len(self.kept) >= MOST_KEPT:
            self.stride = 2 * self.stride
            self.kept = every(self.kept, self.stride)
        if self.now % self.stride == 0:
            self.kept[self.now] = self.machine.copy()

    def due(self, before, frames, moment):
        """The reason to stop behind a step, or an empty string; before are the watched bytes as they were."""
        machine = self.machine
        if machine.kind != "runs":
            return "end" if machine.kind in ENDED_KINDS else "asks"
        if machine.at() in self.stopping:
            return "break"
        if self.seen() != before:
            return "watch"
        return "reached" if len(machine.calls) <= frames or self.now == moment else ""

    def told(self, reason):
        """A stop with this reason."""
        word, place = self.machine.at() or (None, None)
        return (reason, self.now, word, place)

    def resting(self):
        """The stop of a deed that goes back or does no step."""
        kind = self.machine.kind
        if kind == "runs":
            return self.told("reached")
        return self.told("end" if kind in ENDED_KINDS else "asks")

    def forward(self, frames, moment):
        """Goes until there are no more frames than told or the moment is come to, or something else is due."""
        for _ in range(MOST_STEPS):
            before = self.seen()
            if not self.advance():
                return self.resting()
            reason = self.due(before, frames, moment)
            if reason != "":
                return self.told(reason)
        return self.told("limit")

    def step(self):
        """Goes one step."""
        return self.forward(NEVER, self.now + 1)

    def over(self):
        """Goes until there are no more frames than there are now."""
        return self.forward(len(self.machine.calls), NEVER)

    def out(self):
        """Goes until there are fewer frames than there are now."""
        return self.forward(len(self.machine.calls) - 1, NEVER)

    def go(self):
        """Goes until a break or a watch."""
        return self.forward(NEVER, NEVER)

    def back(self):
        """Goes one step back; nothing is done at moment 0."""
        if self.now > 0:
            self.return_to(self.now - 1)
        return self.resting()

    def until(self, moment):
        """Goes to a moment, forward or back."""
        if not is_integer(moment) or moment < 0:
            raise BadMoment(moment)
        if moment > self.now:
            return self.forward(NEVER, moment)
        if moment < self.now:
            self.return_to(moment)
        return self.resting()

    def return_to(self, moment):
        """Makes the machine what it was at an earlier moment, but for its rooms."""
        machine = self.machine
        self.now = max([at for at in self.kept if at <= moment])
        machine.store = self.kept[self.now].store.copy()
        machine.stand_as(self.kept[self.now])
        if self.now in self.gifts:
            machine.give(self.gifts[self.now])
        data = machine.data
        frames = machine.frames
        machine.data = ENDLESS
        machine.frames = ENDLESS
        while self.now < moment and self.advance():
            pass
        machine.data = data
        machine.frames = frames

    def stops(self, most):
        """Yields the stops of go, up to the first end, at most so many."""
        for _ in range(most):
            stop = self.go()
            yield stop
            if stop[0] == "end":
                return


class Break:
    """A context within which a tracer has a break; behind it it has the breaks from before."""

    def __init__(self, tracer, number, place):
        check_break(tracer, number, place)
        self.tracer = tracer
        self.spot = (number, place)
        self.stopping_before = tracer.stopping

    def __enter__(self):
        self.stopping_before = self.tracer.stopping
        self.tracer.stopping = {spot: True for spot in self.stopping_before}
        self.tracer.stopping[self.spot] = True
        return self

    def __exit__(self, kind, value, trace):
        tracer = self.tracer
        tracer.stopping = self.stopping_before


def gone_with(tracer, number, place):
    """Goes with one more break; the stop."""
    with Break(tracer, number, place):
        stop = tracer.go()
    return stop
