"""Opened programs: bodies that have the same ways and no other data than the answers."""

from wordmint.effects import effect_of
from wordmint.errors import TooLong
from wordmint.forms import LONGEST_BODY
from wordmint.stores import Store, need_word

WIDTH = 16
KEPT_OPS = (">r", "r>", "r@", "goto", "exit", "recurse")


def is_deferred(store, number):
    """Whether a word of the store is deferred."""
    return store.words[number].kind == "deferred"


def shell(effect):
    """Instructions that take and leave as many items as the effect tells."""
    return (("drop", 0),) * effect[0] + (("lit", 0),) * effect[1]


def part(store, word, instruction):
    """What an instruction of a word becomes; places and words in it are still those of the store."""
    op, arg = instruction
    if op in KEPT_OPS:
        return (instruction,)
    if op in ("call", "jump"):
        if not is_deferred(store, arg):
            return (instruction,)
        end = (("exit", 0),) if op == "jump" else ()
        return shell(store.words[arg].declared) + end
    if op in ("unless", "throw"):
        return (("drop", 0), ("ask", 0), instruction)
    if op == "perform":
        return (("drop", 0),)
    if op == "forget":
        return ()
    return shell(effect_of(store.words, word.declared, op, arg))


def parts_of(store, number):
    """What each instruction of a word becomes."""
    word = store.words[number]
    return [part(store, word, instruction) for instruction in word.body]


def places_of(parts):
    """The place of the first instruction of each part, and the length of all."""
    places = [0]
    for piece in parts:
        places.append(places[-1] + len(piece))
    return places


def moved(instruction, places, numbers):
    """An instruction of an opened body with its place and its word in the opened program."""
    op, arg = instruction
    if op in ("goto", "unless"):
        return (op, places[arg])
    if op in ("call", "jump"):
        return (op, numbers[arg])
    return instruction


def opened_body(store, number, numbers):
    """The opened body of a word; numbers tells for each word that it calls the number in the opened program."""
    parts = parts_of(store, number)
    places = places_of(parts)
    if places[-1] > LONGEST_BODY:
        raise TooLong(number)
    return tuple([moved(instruction, places, numbers) for piece in parts for instruction in piece])


def called(store, number):
    """The words that a word calls and jumps to, deferred ones aside."""
    pairs = store.words[number].body
    return [arg for op, arg in pairs if op in ("call", "jump") and not is_deferred(store, arg)]


def reached_by_calls(store, number):
    """The word and all words that it reaches by calls and jumps, ascending."""
    found = {number: True}
    waiting = [number]
    while waiting:
        caller = waiting.pop()
        for other in list(called(store, caller)):
            if other not in found:
                found[other] = True
                waiting.append(other)
    return sorted(found)


def opened(store, number):
    """The opened program of a word, and the word's number there."""
    need_word(store, number)
    program = Store(WIDTH)
    numbers = {}
    for old in list(reached_by_calls(store, number)):
        body = opened_body(store, old, numbers)
        numbers[old] = program.define(body, declared=store.words[old].declared)
    return (program, numbers[number])


def opened_places(store, number):
    """For each place of a word's body the place of the first instruction of what it became."""
    need_word(store, number)
    return tuple(places_of(parts_of(store, number))[:-1])


def witness(store, number):
    """None for a word that is let by, otherwise (program, number, stack, feeds) of the runs that show why not."""
    need_word(store, number)
    verdict = store.words[number].verdict
    if verdict.effect is not None:
        return None
    program, opened_number = opened(store, number)
    feeds = (verdict.row,)
    if verdict.kind == "ragged":
        feeds = (verdict.other, verdict.row)
    return (program, opened_number, (0,) * verdict.need, feeds)
