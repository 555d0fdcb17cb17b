"""Stores: the words of a program, with their memory."""

from wordmint.cells import check_width, is_between
from wordmint.errors import BadEffect, BadName, NoWord, TooMany, Unfit
from wordmint.forms import check_body, fits, is_effect
from wordmint.kinds import NO_HOME, acting, bodied_word, checked, deferred_word
from wordmint.memory import Memory
from wordmint.reading import is_name

MOST_WORDS = 400


def is_word(store, number):
    """Whether the store has a word with this number."""
    return is_between(number, 0, len(store.words) - 1)


def need_word(store, number):
    """Raises NoWord unless the store has a word with this number."""
    if not is_word(store, number):
        raise NoWord(number)


def need_fit(store, action, wanted):
    """Raises NoWord or Unfit unless the action is None or a word whose effect fits the wanted one."""
    if action is not None:
        need_word(store, action)
        if not fits(store.words[action].effect, wanted):
            raise Unfit(action)


def check_new(store, name):
    """Raises TooMany or BadName unless the store may have one more word of this name."""
    if len(store.words) >= MOST_WORDS:
        raise TooMany(MOST_WORDS)
    if name != "" and not is_name(name):
        raise BadName(name)


def add_word(store, word):
    """Adds a word at the end of the store; its number."""
    store.words.append(word)
    return len(store.words) - 1


def add_plain(store, home, body, name, declared, immediate):
    """Adds a plain word of a list; its number."""
    check_new(store, name)
    if declared is not None and not is_effect(declared):
        raise BadEffect(declared)
    check_body(store.width, body, len(store.words))
    return add_word(store, bodied_word(store.words, "plain", name, home, immediate, body, declared))


def add_deferred(store, home, declared, name, action):
    """Adds a deferred word of a list; its number."""
    check_new(store, name)
    if not is_effect(declared):
        raise BadEffect(declared)
    need_fit(store, action, declared)
    return add_word(store, deferred_word(store.words, name, home, False, declared, action))


def are_alike(one, other):
    """Whether two stores have the same width, memory and words."""
    return (one.width == other.width and one.memory == other.memory
            and [word.plain() for word in one.words] == [word.plain() for word in other.words])


class Store:
    """A width, a memory, and words, which are checked when they are added.

    A store that is made like another one begins with copies of what that one has, but for the words, which are told.
    """

    def __init__(self, width, *, like=None, words=None):
        check_width(width)
        self.width = width
        self.memory = Memory(width) if like is None else like.memory.copy()
        self.words = [] if words is None else words

    def __len__(self):
        return len(self.words)

    def __iter__(self):
        return iter(self.words)

    def __getitem__(self, at):
        need_word(self, at)
        return self.words[at]

    def __eq__(self, other):
        return isinstance(other, Store) and are_alike(self, other)

    def copy(self):
        """A store of the same words that goes its own way."""
        return self.with_words(list(self.words))

    def with_words(self, words):
        """A store with these words, which are not copied, and copies of all else."""
        return Store(self.width, like=self, words=words)

    def define(self, body, *, name="", declared=None, immediate=False):
        """Adds a plain word; its number."""
        return add_plain(self, NO_HOME, body, name, declared, immediate)

    def defer(self, declared, *, name="", action=None):
        """Adds a deferred word; its number."""
        return add_deferred(self, NO_HOME, declared, name, action)

    def act(self, number, action):
        """Gives a deferred word its action, or None."""
        need_word(self, number)
        word = self.words[number]
        if word.kind != "deferred":
            raise Unfit(number)
        need_fit(self, action, word.declared)
        self.words[number] = acting(word, action)

    def changed(self, number, body):
        """A new store in which the word has this body, and its effect as its declared effect."""
        need_word(self, number)
        word = self.words[number]
        effect = word.effect
        if word.kind not in ("plain", "quote") or not is_effect(effect):
            raise Unfit(number)
        check_body(self.width, body, number)
        fresh = list(self.words[:number])
        fresh.append(checked(fresh, word, body, effect))
        if fresh[number].effect is None:
            raise Unfit(number)
        # Words refer to older ones alone, so only the younger words can have another verdict now.
        for younger in list(self.words[number + 1:]):
            fresh.append(checked(fresh, younger, younger.body, younger.declared))
        return self.with_words(fresh)
