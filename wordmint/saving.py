"""Images: stores and systems as lists of lines, and the stores that lines tell of."""

from wordmint.cells import WIDTHS
from wordmint.forms import HIGHEST_ADDRESS, fits
from wordmint.images import (
    Lines, bytes_lines, lists_line, optional, spelled, spelled_effect, spelled_rows,
)
from wordmint.kinds import NO_HOME, bodied_word, deferred_word, made_word, marker_word
from wordmint.lists import Lists
from wordmint.memory import Memory
from wordmint.stores import MOST_WORDS, Store, add_word
from wordmint.system import System, need_nothing_open

KINDS = ("store", "system")
WHEN = ("later", "now")
END = "end"


def head_of(word):
    """The words that begin the line of a word with a name."""
    return [word.kind, "=" + word.name, word.home, WHEN[1] if word.immediate else WHEN[0]]


def keeps_lines(keeps):
    """The lines for what a marker keeps."""
    count, order, into, row, actions = keeps
    lines = [lists_line(count, into, order)]
    lines.extend(bytes_lines(row))
    lines.append(spelled(["actions", *[optional(action) for action in actions]]))
    return lines


def word_lines(word):
    """The lines for a word."""
    if word.kind == "quote":
        return [spelled(["quote", spelled_effect(word.declared), *spelled_rows(word.body)])]
    head = head_of(word)
    if word.kind == "plain":
        return [spelled([*head, spelled_effect(word.declared), *spelled_rows(word.body)])]
    if word.kind == "made":
        return [spelled([*head, word.address, optional(word.behaviour)])]
    if word.kind == "deferred":
        return [spelled([*head, spelled_effect(word.declared), optional(word.action)])]
    return [spelled(head), *keeps_lines(word.keeps)]


def image_of(store):
    """The lines of the image of a store or a system, whatever is open in it."""
    lines = [spelled([KINDS[1] if isinstance(store, System) else KINDS[0], store.width])]
    if isinstance(store, System):
        lines.append(lists_line(store.lists.count, store.lists.into, store.lists.order))
    lines.extend(bytes_lines(store.memory.all_bytes()))
    for word in list(store.words):
        if word.kind != "kernel":
            lines.extend(word_lines(word))
    lines.append(END)
    return lines


def save(store):
    """The lines of the image of a store or a system that has no open definition."""
    need_nothing_open(store)
    return image_of(store)


def begun(lines):
    """Passes the lines ahead of the words; the store or system that they tell of."""
    kind = lines.choice_in(lines.first_word(), KINDS)
    words = lines.counted(KINDS[kind], 1)
    width = WIDTHS[lines.choice_in(words[0], [str(each) for each in WIDTHS])]
    lines.pass_line()
    store = Store(width) if kind == 0 else System(width)
    if kind == 1:
        count, into, order = lines.pass_lists()
        store.lists = Lists(count, order, into)
    store.memory = Memory.of(width, lines.pass_bytes(width))
    return store


def head_in(lines, store, words):
    """The name, the home and the mark that the first words of a line tell."""
    name = lines.name_in(words[0])
    if isinstance(store, System):
        home = lines.number_in(words[1], 0, store.lists.count - 1)
    else:
        home = lines.number_in(words[1], NO_HOME, NO_HOME)
    return (name, home, lines.choice_in(words[2], WHEN) == 1)


def plain_in(lines, store):
    """Passes the line of a plain word."""
    words = lines.words_of_line("plain")
    lines.must(len(words) >= 4)
    name, home, immediate = head_in(lines, store, words)
    declared = lines.effect_in(words[3])
    body = lines.body_in(words[4:], store.width, len(store.words))
    lines.pass_line()
    return bodied_word(store.words, "plain", name, home, immediate, body, declared)


def quote_in(lines, store):
    """Passes the line of a quote."""
    words = lines.words_of_line("quote")
    lines.must(len(words) >= 1)
    declared = lines.effect_in(words[0])
    body = lines.body_in(words[1:], store.width, len(store.words))
    lines.pass_line()
    return bodied_word(store.words, "quote", "", NO_HOME, False, body, declared)


def made_in(lines, store):
    """Passes the line of a made word."""
    words = lines.counted("made", 5)
    name, home, immediate = head_in(lines, store, words)
    address = lines.number_in(words[3], 0, HIGHEST_ADDRESS)
    behaviour = lines.optional_in(words[4], len(store.words) - 1)
    lines.pass_line()
    return made_word(store.words, name, home, immediate, address, behaviour)


def deferred_in(lines, store):
    """Passes the line of a deferred word; whether the action is there and fits, the line end tells."""
    words = lines.counted("deferred", 5)
    name, home, immediate = head_in(lines, store, words)
    declared = lines.effect_in(words[3])
    lines.must(declared is not None)
    action = lines.optional_in(words[4], None)
    lines.pass_line()
    return deferred_word(store.words, name, home, immediate, declared, action)


def is_fit(words, action, declared):
    """Whether an action is None, or one of these words and does for this effect."""
    return action is None or (action < len(words) and fits(words[action].effect, declared))


def actions_in(lines, store):
    """Passes the line of the actions that a marker keeps."""
    wanted = [word.declared for word in store.words if word.kind == "deferred"]
    words = lines.counted("actions", len(wanted))
    actions = [lines.optional_in(word, None) for word in words]
    lines.must(all([is_fit(store.words, action, declared) for action, declared in zip(actions, wanted)]))
    lines.pass_line()
    return tuple(actions)


def marker_in(lines, store):
    """Passes the lines of a marker."""
    name, home, immediate = head_in(lines, store, lines.counted("marker", 3))
    lines.pass_line()
    count, into, order = lines.pass_lists()
    row = lines.pass_bytes(store.width)
    keeps = (count, order, into, row, actions_in(lines, store))
    return marker_word(store.words, name, home, immediate, keeps)


STORE_WORDS = {"plain": plain_in, "deferred": deferred_in}
SYSTEM_WORDS = {"plain": plain_in, "deferred": deferred_in, "quote": quote_in, "made": made_in, "marker": marker_in}


def loaded(lines):
    """Passes the lines of an image up to its end; the store or system that they tell of."""
    store = begun(lines)
    verb = lines.first_word()
    while verb != END:
        lines.must(len(store.words) < MOST_WORDS)
        pass_word = SYSTEM_WORDS.get(verb) if isinstance(store, System) else STORE_WORDS.get(verb)
        lines.must(pass_word is not None)
        add_word(store, pass_word(lines, store))
        verb = lines.first_word()
    for word in list(store.words):
        lines.must(is_fit(store.words, word.action, word.declared))
    lines.pass_whole(END)
    return store


def load(lines):
    """The store or system of an image."""
    cursor = Lines(lines)
    store = loaded(cursor)
    cursor.pass_end()
    return store
