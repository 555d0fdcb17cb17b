"""Pruning: which words a word reaches, and stores that have only the words that some roots reach."""

from wordmint.errors import BadItem
from wordmint.forms import WORD_OPS
from wordmint.moving import Move
from wordmint.stores import need_word
from wordmint.system import need_nothing_open


def direct(word):
    """The words that a word reaches by its instructions or its action, ascending."""
    numbers = [arg for op, arg in word.body if op in WORD_OPS]
    if word.action is not None:
        numbers.append(word.action)
    return sorted({number for number in numbers})


def deferred_ahead(words, number):
    """The numbers of the deferred words ahead of a word, ascending."""
    return [at for at, word in enumerate(words[:number]) if word.kind == "deferred"]


def kept_by(words, number, found):
    """The actions that a marker keeps for the deferred words among those that were found."""
    deferred = deferred_ahead(words, number)
    return [action for at, action in zip(deferred, words[number].keeps[4]) if at in found and action is not None]


def spread(words, found, waiting):
    """Adds to what was found the waiting words and all that they reach, markers aside."""
    while waiting:
        number = waiting.pop()
        if number not in found:
            found[number] = True
            waiting.extend(direct(words[number]))


def reached(store, roots):
    """The ascending tuple of the words that some roots reach."""
    for root in roots:
        need_word(store, root)
    words = store.words
    found = {}
    waiting = [number for number, word in enumerate(words) if word.kind == "kernel"]
    waiting.extend(roots)
    # What a marker keeps hangs on the deferred words that are reached, so it is looked at again and again.
    while waiting:
        spread(words, found, waiting)
        for number in sorted(found):
            if words[number].kind == "marker":
                waiting.extend([action for action in kept_by(words, number, found) if action not in found])
    return tuple(sorted(found))


def distances(words, goal):
    """For each word that reaches the goal over as few words as possible, how many steps that are."""
    callers = {}
    for number, word in enumerate(words):
        for other in direct(word):
            callers.setdefault(other, []).append(number)
    far = {goal: 0}
    waiting = [goal]
    while waiting:
        further = []
        for number in list(waiting):
            for caller in list(callers.get(number, [])):
                if caller not in far:
                    far[caller] = far[number] + 1
                    further.append(caller)
        waiting = further
    return far


def way(store, root, number):
    """The shortest and first way on which a word reaches another one, a tuple; None if there is none."""
    need_word(store, root)
    need_word(store, number)
    far = distances(store.words, number)
    if root not in far:
        return None
    words = [root]
    while words[-1] != number:
        last = words[-1]
        words.append(min([other for other in direct(store.words[last]) if far.get(other, -1) == far[last] - 1]))
    return tuple(words)


def kept_in(words, number, move):
    """What a marker keeps in the pruned store; None for every other word."""
    keeps = words[number].keeps
    if keeps is None:
        return None
    count, order, into, row, actions = keeps
    deferred = deferred_ahead(words, number)
    left = tuple([move.number_of(action) for at, action in zip(deferred, actions) if at in move.numbers])
    return (count, order, into, row, left)


def pruned(store, roots):
    """The store with only the words that some roots reach, and the tuple of the numbers that they had."""
    numbers = reached(store, roots)
    need_nothing_open(store)
    move = Move({number: place for place, number in enumerate(numbers)}, {}, 0, 0)
    left = [move.word_of(store.words[number], kept_in(store.words, number, move)) for number in numbers]
    return (store.with_words(left), numbers)


def renumbered(items, numbers):
    """Items with each token as it is in the pruned store whose words had these numbers."""
    told = []
    for item in items:
        if isinstance(item, tuple):
            if item[0] not in numbers:
                raise BadItem(item)
            told.append((numbers.index(item[0]),))
        else:
            told.append(item)
    return tuple(told)
