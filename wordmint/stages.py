"""Staging: the words that are let by get shorter bodies."""

from wordmint.forms import is_effect
from wordmint.kinds import checked
from wordmint.machine import ended
from wordmint.passes import Fold, Inline, Tail, Thread, Trim, settle
from wordmint.stores import need_word

STAGED_KINDS = ("plain", "quote")


def is_staged(word):
    """Whether a word is let by, plain or a quote, and takes and leaves at most eight items."""
    return word.kind in STAGED_KINDS and is_effect(word.effect)


def put_body(store, number, body, declared):
    """Gives a word of the store this body and this declared effect, and checks it anew."""
    store.words[number] = checked(store.words, store.words[number], body, declared)


def staged(store):
    """A new store with the bodies of the staged words led through the passes."""
    fresh = store.copy()
    shorten = Inline() + Fold() + Thread() + Trim()
    finish = Tail() + Trim()
    for number, word in enumerate(list(store.words)):
        if is_staged(word):
            put_body(fresh, number, settle(shorten, fresh, number, word.body), word.effect)
        else:
            put_body(fresh, number, word.body, word.declared)
    for number, word in enumerate(list(store.words)):
        if is_staged(word):
            put_body(fresh, number, finish(fresh, number, fresh.words[number].body), word.effect)
        else:
            put_body(fresh, number, word.body, word.declared)
    return fresh


def steps_saved(store, number, *stack, feed=(), steps=20000):
    """The steps of a run less those of the run in the staged store, or None unless the first one is done."""
    need_word(store, number)
    plain = ended(store, number, *stack, feed=feed, steps=steps)
    if plain.kind != "done":
        return None
    return plain.steps - ended(staged(store), number, *stack, feed=feed, steps=steps).steps
