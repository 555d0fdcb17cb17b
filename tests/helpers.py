"""What several test files need."""

import unittest

from wordmint.machine import Machine
from wordmint.stores import Store


class Case(unittest.TestCase):
    """A test case that can look at what an error tells."""

    def fails(self, kind, told, call, *args, **named):
        """The call raises just this error, and the error keeps just this thing."""
        with self.assertRaises(kind) as caught:
            call(*args, **named)
        error = caught.exception
        self.assertIs(error.__class__, kind)
        kept = list(vars(error).values())
        self.assertEqual(len(kept), 1)
        self.assertEqual(kept[0], told)
        self.assertIs(kept[0].__class__, told.__class__)


def ops(text):
    """A body from words: an op alone, or op#number; run#1,2 for run."""
    body = []
    for word in text.split():
        op, mark, arg = word.partition("#")
        if not mark:
            body.append((word, 0))
        elif "," in arg:
            body.append((op, tuple(int(part) for part in arg.split(","))))
        else:
            body.append((op, int(arg)))
    return tuple(body)


def store_of(*bodies, width=16):
    """A store of plain words; a body is a text for ops, or a pair of a text and a declared effect."""
    store = Store(width)
    for body in bodies:
        if isinstance(body, str):
            store.define(ops(body))
        else:
            store.define(ops(body[0]), declared=body[1])
    return store


def run(text, *stack, width=16, store=None, steps=2000, **named):
    """A machine that ran a new word with this body as far as it goes."""
    store = Store(width) if store is None else store
    number = store.define(ops(text))
    machine = Machine(store, number, stack=stack, **named)
    machine.go(steps)
    return machine
