"""The passes, written plainly from the points [29] and [30] of the document: slowly, and one rule at a time."""

from wordmint.cells import ARITHMETIC, work
from wordmint.effects import Summary, standings
from wordmint.errors import ByZero
from tests import reference

PLACES = ("goto", "unless")


def landings(body):
    return [arg for op, arg in body if op in PLACES]


def exchanged(body, place, count, rows):
    """The body with some rows instead of so many instructions from a place on; these have no landings but the first."""
    def moved(target):
        if target <= place:
            return target
        if target < place + count:
            return place + len(rows)
        return target - count + len(rows)
    new = list(body[:place]) + [None] * len(rows) + list(body[place + count:])
    new = [row if row is None or row[0] not in PLACES else (row[0], moved(row[1])) for row in new]
    new[place:place + len(rows)] = [(op, moved(arg)) if op in PLACES else (op, arg) for op, arg in rows]
    return tuple(new)


def inline(words, body):
    def small(word):
        ops = [op for op, arg in word.body]
        return (isinstance(word.verdict, Summary) and word.kind in ("plain", "quote", "made") and len(ops) <= 7
                and ops[-1] == "exit" and ops.count("exit") == 1
                and not set(ops) & {"goto", "unless", "recurse", "jump", "locals"})
    place = 0
    while place < len(body):
        op, arg = body[place]
        if op == "call" and small(words[arg]):
            inner = words[arg].body[:-1]
            if len(body) - 1 + len(inner) <= 400:
                body = exchanged(body, place, 1, inner)
                place += len(inner)
                continue
        place += 1
    return body


def has_row(words, body):
    return reference.least_row(words, body) is not None


def fold_at(width, words, body, place):
    """The body behind the first rule that fits at a place, or None."""
    lands = landings(body)
    rows = body[place:place + 3]
    ops = [op for op, arg in rows]
    if len(rows) < 2 or place + 1 in lands:
        return None
    if len(rows) == 3 and place + 2 not in lands and ops[:2] == ["lit", "lit"] and ops[2] in ARITHMETIC[:-2]:
        try:
            return exchanged(body, place, 3, [("lit", work(width, ops[2], rows[0][1], rows[1][1]))])
        except ByZero:
            return None
    if ops[0] == "lit" and ops[1] in ("invert", "0="):
        return exchanged(body, place, 2, [("lit", work(width, ops[1], rows[0][1]))])
    if ops[0] in ("lit", "data", "token", "dup", "over", "r@", "local") and ops[1] == "drop":
        return exchanged(body, place, 2, [])
    if ops[:2] == ["swap", "swap"]:
        return exchanged(body, place, 2, [])
    if ops[:2] == ["lit", "unless"]:
        new = exchanged(body, place, 2, [("goto", rows[1][1])] if rows[0][1] == 0 else [])
        if has_row(words, body) and not has_row(words, new):
            return None
        return new
    if ops[:2] == ["lit", "throw"] and rows[0][1] == 0:
        return exchanged(body, place, 2, [])
    return None


def fold(width, words, body):
    place = 0
    while place < len(body):
        new = fold_at(width, words, body, place)
        if new is None:
            place += 1
        else:
            body, place = new, 0
    return body


def thread(body):
    rows = []
    for op, arg in body:
        if op in PLACES:
            target, seen = arg, []
            while body[target][0] == "goto" and target not in seen:
                seen.append(target)
                target = body[target][1]
            rows.append((op, arg if target in seen else target))
        else:
            rows.append((op, arg))
    rows = [("exit", 0) if op == "goto" and rows[arg][0] == "exit" else (op, arg) for op, arg in rows]
    body = tuple(rows)
    while True:
        idle = [place for place, (op, arg) in enumerate(body) if op == "goto" and arg == place + 1]
        if not idle:
            return body
        body = exchanged(body, idle[0], 1, [])


def trim(body):
    seen = []
    waiting = [0]
    while waiting:
        place = waiting.pop()
        if place not in seen:
            seen.append(place)
            op, arg = body[place]
            if op in PLACES:
                waiting.append(arg)
            if op not in ("goto", "exit", "jump"):
                waiting.append(place + 1)
    for place in range(len(body) - 1, -1, -1):
        if place not in seen:
            body = exchanged(body, place, 1, [])
    return body


def tail(words, body, effect):
    rows = list(body)
    places = [place for place, _, _, _ in standings(words, body, effect)]
    for place in places:
        op, arg = body[place]
        if op == "call" and body[place + 1][0] == "exit" and reference.row_of(words, arg) is not None:
            rows[place] = ("jump", arg)
        if op == "recurse" and body[place + 1][0] == "exit" and has_row(words, body):
            rows[place] = ("goto", 0)
    return tuple(rows)
