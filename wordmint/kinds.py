"""How words of each kind are made; each is checked over the older words."""

from wordmint.effects import check
from wordmint.forms import Word

NO_HOME = -1
EXIT = ("exit", 0)
DEFERRED_BODY = (("deferred", 0), ("exit", 0))
MARKER_BODY = (("forget", 0), ("exit", 0))


def bodied_word(words, kind, name, home, immediate, body, declared):
    """A plain word, or a quote."""
    return Word(name, home, kind, immediate, body, declared, check(words, body, declared))


def first_of(words, number):
    """The instruction that stands for a word: that of a kernel word, or a call."""
    word = words[number]
    return word.body[0] if word.kind == "kernel" else ("call", number)


def made_word(words, name, home, immediate, address, behaviour):
    """A made word; the behaviour is the number of an older word, or None."""
    body = (("data", address), EXIT)
    if behaviour is not None:
        body = (body[0], first_of(words, behaviour), EXIT)
    return Word(name, home, "made", immediate, body, None, check(words, body), address=address, behaviour=behaviour)


def deferred_word(words, name, home, immediate, declared, action):
    """A deferred word; the action is the number of a word that fits, or None."""
    verdict = check(words, DEFERRED_BODY, declared)
    return Word(name, home, "deferred", immediate, DEFERRED_BODY, declared, verdict, action=action)


def marker_word(words, name, home, immediate, keeps):
    """A marker that keeps (count, order, into, bytes, actions)."""
    return Word(name, home, "marker", immediate, MARKER_BODY, None, check(words, MARKER_BODY), keeps=keeps)


def acting(word, action):
    """A deferred word like this one, with this action."""
    return Word(word.name, word.home, word.kind, word.immediate, word.body, word.declared, word.verdict,
                action=action)


def now(word):
    """A word like this one that is immediate."""
    return Word(word.name, word.home, word.kind, True, word.body, word.declared, word.verdict,
                address=word.address, behaviour=word.behaviour, action=word.action, keeps=word.keeps)


def checked(words, word, body, declared):
    """A word like this one, with this body and this declared effect, checked over older words."""
    return Word(word.name, word.home, word.kind, word.immediate, body, declared, check(words, body, declared),
                address=word.address, behaviour=word.behaviour, action=word.action, keeps=word.keeps)
