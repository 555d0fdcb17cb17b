"""Open definitions: what may be appended to them, and how they are closed."""

from wordmint.errors import Thrown
from wordmint.kinds import EXIT, NO_HOME, bodied_word, first_of
from wordmint.stores import MOST_WORDS, add_word

# The last exit is not among the rows of an open definition, but its room is kept.
MOST_ROWS = 119
MOST_OPEN = 4


def innermost(system):
    """The innermost open definition; throws an error if none is open."""
    if not system.opened:
        raise Thrown(-11)
    return system.opened[-1]


def need_closed(system):
    """Throws an error if a definition is open."""
    if system.opened:
        raise Thrown(-11)


def need_rows(definition, count):
    """Throws an error unless so many instructions may be appended."""
    if len(definition.rows) + count > MOST_ROWS:
        raise Thrown(-20)


def need_words(system):
    """Throws an error unless the system may have one more word."""
    if len(system.words) >= MOST_WORDS:
        raise Thrown(-20)


def add_row(definition, op, arg):
    """Appends an instruction."""
    need_rows(definition, 1)
    definition.rows.append((op, arg))


def compile_word(system, number):
    """Compiles a word into the innermost open definition."""
    definition = innermost(system)
    op, arg = first_of(system.words, number)
    add_row(definition, op, arg)


def compile_item(system, item):
    """Appends the literal of an item to the innermost open definition."""
    definition = innermost(system)
    if isinstance(item, tuple):
        add_row(definition, "token", item[0])
    else:
        add_row(definition, "lit", item)


def open_definition(system, definition):
    """Makes a definition the innermost open one."""
    if len(system.opened) >= MOST_OPEN:
        raise Thrown(-20)
    system.opened.append(definition)


def closed_word(system, definition, kind, home):
    """The word that the definition becomes when it is closed."""
    body = (*definition.rows, EXIT)
    return bodied_word(system.words, kind, definition.name, home, False, body, definition.declared)


def close_word(system):
    """Closes the innermost definition, which is a word with a name."""
    definition = innermost(system)
    if definition.name == "":
        raise Thrown(-11)
    if definition.gaps:
        raise Thrown(-12)
    need_words(system)
    add_word(system, closed_word(system, definition, "plain", system.lists.into))
    system.opened.pop()


def close_quote(system):
    """Closes the innermost definition, which is a quotation; its token is appended to the next one."""
    definition = innermost(system)
    if definition.name != "":
        raise Thrown(-11)
    if definition.gaps:
        raise Thrown(-12)
    need_words(system)
    outer = system.opened[-2]
    need_rows(outer, 1)
    outer.rows.append(("token", len(system.words)))
    add_word(system, closed_word(system, definition, "quote", NO_HOME))
    system.opened.pop()
