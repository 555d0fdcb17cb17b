"""Passes: each makes of the body of a word a shorter or quicker one."""

from wordmint.effects import least_row, standings
from wordmint.folding import folded, returns
from wordmint.forms import PLACE_OPS
from wordmint.kinds import EXIT
from wordmint.opening import places_of
from wordmint.stores import need_word

LONGEST_INLINED = 400
LONGEST_SMALL = 7
SMALL_KINDS = ("plain", "quote", "made")
LARGE_OPS = ("goto", "unless", "recurse", "jump", "locals")
MOST_TURNS = 400


def assembled(parts):
    """The body of which each part came in the place of an instruction; places in the parts are those before."""
    places = places_of(parts)
    rows = [row for part in parts for row in part]
    return tuple([(op, places[arg]) if op in PLACE_OPS else (op, arg) for op, arg in rows])


def is_small(word):
    """Whether calls of a word are exchanged for its body."""
    if word.effect is None or word.kind not in SMALL_KINDS or len(word.body) > LONGEST_SMALL:
        return False
    ops = [op for op, arg in word.body]
    return ops[-1] == "exit" and ops.count("exit") == 1 and not any([op in LARGE_OPS for op in ops])


def inlined(words, body):
    """The body with the bodies of small words instead of calls, from the front, as far as there is room."""
    parts = []
    length = len(body)
    for row in list(body):
        op, arg = row
        part = (row,)
        if op == "call" and is_small(words[arg]):
            inner = words[arg].body[:-1]
            if length - 1 + len(inner) <= LONGEST_INLINED:
                part = inner
                length += len(inner) - 1
        parts.append(part)
    return assembled(parts)


def chain_ends(body):
    """For each goto the first place on its way that is no goto, or None if it goes round without end."""
    ends = {}
    for start in range(len(body)):
        place = start
        way = {}
        while body[place][0] == "goto" and place not in ends and place not in way:
            way[place] = True
            place = body[place][1]
        end = ends.get(place) if body[place][0] == "goto" else place
        for step in list(way):
            ends[step] = end
    return ends


def led_on(body):
    """The body in which nothing leads to a goto but what goes round without end."""
    ends = chain_ends(body)
    rows = []
    for op, arg in list(body):
        end = ends.get(arg) if op in PLACE_OPS else None
        rows.append((op, arg) if end is None else (op, end))
    return rows


def without_idle(rows):
    """The body without gotos that lead to the next place."""
    # The next place that stays, for each place; behind the last one there is none.
    nexts = [len(rows)] * (len(rows) + 1)
    parts = [()] * len(rows)
    for place in range(len(rows) - 1, -1, -1):
        op, arg = rows[place]
        nexts[place] = nexts[place + 1]
        if op != "goto" or arg <= place or nexts[arg] != nexts[place + 1]:
            nexts[place] = place
            parts[place] = ((op, arg),)
    return assembled(parts)


def reached_places(body):
    """The places to which ways lead from the first one, if every call returns."""
    seen = {}
    waiting = [0]
    while waiting:
        place = waiting.pop()
        if place in seen:
            continue
        seen[place] = True
        op, arg = body[place]
        if op in PLACE_OPS:
            waiting.append(arg)
        if op not in ("goto", "exit", "jump"):
            waiting.append(place + 1)
    return seen


class Named:
    """Something that is called by the name of its class."""

    def spelled(self):
        """The name of the class in small letters."""
        return self.__class__.__name__.lower()


class Pass:
    """What makes of a body another one for the same word."""

    def __add__(self, other):
        if not isinstance(other, Pass):
            return NotImplemented
        return Both(self, other)


class Both(Pass):
    """A pass, and another one that is done with the body that the first one made."""

    def __init__(self, earlier, later):
        self.earlier = earlier
        self.later = later

    def spelled(self):
        """The words of both passes."""
        return self.earlier.spelled() + "+" + self.later.spelled()

    def __call__(self, store, number, body):
        return self.later(store, number, self.earlier(store, number, body))


class Inline(Named, Pass):
    """Exchanges calls of small words for their bodies."""

    def __call__(self, store, number, body):
        need_word(store, number)
        return inlined(store.words, body)


class Fold(Named, Pass):
    """Exchanges two or three instructions for fewer ones, as long as a rule fits somewhere."""

    def __call__(self, store, number, body):
        need_word(store, number)
        return folded(store.width, store.words, body)


class Thread(Named, Pass):
    """Lets gotos and unlesses lead to where they come in the end."""

    def __call__(self, store, number, body):
        need_word(store, number)
        rows = led_on(body)
        rows = [EXIT if op == "goto" and rows[arg][0] == "exit" else (op, arg) for op, arg in rows]
        return without_idle(rows)


class Trim(Named, Pass):
    """Drops instructions to which no way leads."""

    def __call__(self, store, number, body):
        need_word(store, number)
        reached = reached_places(body)
        return assembled([(row,) if place in reached else () for place, row in enumerate(body)])


class Tail(Named, Pass):
    """Exchanges calls that are followed by an exit for jumps."""

    def __call__(self, store, number, body):
        need_word(store, number)
        words = store.words
        rows = list(body)
        for place, _, _, _ in list(standings(words, body, words[number].effect)):
            op, arg = body[place]
            if op in ("call", "recurse") and body[place + 1][0] == "exit":
                rows[place] = tail_of(words, body, op, arg)
        return tuple(rows)


def tail_of(words, body, op, arg):
    """What a call or recurse that is followed by an exit becomes."""
    if op == "call":
        return ("jump", arg) if returns(words, arg) else (op, arg)
    return ("goto", 0) if least_row(words, body) is not None else (op, arg)


def settle(one, store, number, body):
    """The body behind a pass that is done until it stays as it is, at most 400 times."""
    need_word(store, number)
    for _ in range(MOST_TURNS):
        fresh = one(store, number, body)
        if fresh == body:
            break
        body = fresh
    return body
