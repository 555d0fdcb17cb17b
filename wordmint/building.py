"""The building acts that open, fill and close definitions."""

from wordmint.definitions import (
    add_row, close_quote, close_word, compile_item, compile_word, innermost, need_closed, need_rows,
    open_definition,
)
from wordmint.errors import Thrown
from wordmint.forms import MOST_LOCALS
from wordmint.kinds import first_of
from wordmint.reading import is_name
from wordmint.scanning import digits, found_word, new_name, said_effect
from wordmint.system import Definition

NO_PLACE = -1


def compile_token(machine, instruction, taken):
    """The act compile."""
    compile_word(machine.store, taken[0][0])
    return ()


def append_literal(machine, instruction, taken):
    """The act literal."""
    compile_item(machine.store, taken[0])
    return ()


def append_address(machine, instruction, taken):
    """The act address."""
    definition = innermost(machine.store)
    if taken[0] < 0 or taken[0] > len(machine.store.memory):
        raise Thrown(-5)
    add_row(definition, "data", taken[0])
    return ()


def append_local(machine, instruction, taken):
    """The act local, which appends the use of a local."""
    definition = innermost(machine.store)
    if taken[0] < 0 or taken[0] >= len(definition.names):
        raise Thrown(-12)
    add_row(definition, "local", taken[0])
    return ()


def leave_state(machine, instruction, taken):
    """The act state."""
    return (-1 if machine.store.compiling else 0,)


def stop_compiling(machine, instruction, taken):
    """The act [ behind which words are run."""
    innermost(machine.store)
    machine.store.compiling = False
    return ()


def start_compiling(machine, instruction, taken):
    """The act ] behind which words are compiled."""
    innermost(machine.store)
    machine.store.compiling = True
    return ()


def begin_word(machine, instruction, taken):
    """The act : which opens the definition of a word with a name."""
    system = machine.store
    need_closed(system)
    name = new_name(system)
    open_definition(system, Definition(name, said_effect(system)))
    system.compiling = True
    return ()


def end_word(machine, instruction, taken):
    """The act ; which closes the definition of a word with a name."""
    close_word(machine.store)
    machine.store.compiling = False
    return ()


def begin_quote(machine, instruction, taken):
    """The act [: which opens a quotation."""
    innermost(machine.store)
    open_definition(machine.store, Definition("", None))
    return ()


def end_quote(machine, instruction, taken):
    """The act ;] which closes a quotation."""
    close_quote(machine.store)
    return ()


def append_recurse(machine, instruction, taken):
    """The act self, which appends recurse."""
    add_row(innermost(machine.store), "recurse", 0)
    return ()


def append_run(machine, instruction, taken):
    """The act run, which reads an effect."""
    definition = innermost(machine.store)
    add_row(definition, "run", tuple(digits(machine.store, 2)))
    return ()


def append_catch(machine, instruction, taken):
    """The act catch, which reads a count of items."""
    definition = innermost(machine.store)
    add_row(definition, "catch", digits(machine.store, 1)[0])
    return ()


def append_is(machine, instruction, taken):
    """The act is, which reads a deferred word."""
    definition = innermost(machine.store)
    number = found_word(machine.store)
    if machine.store.words[number].kind != "deferred":
        raise Thrown(-8)
    add_row(definition, "is", number)
    return ()


def append_set(machine, instruction, taken):
    """The act to, which reads the name of a local."""
    definition = innermost(machine.store)
    name = machine.store.source.word()
    if name not in definition.names:
        raise Thrown(-13)
    add_row(definition, "set", definition.names.index(name))
    return ()


def local_names(system):
    """Reads names of locals up to the closing brace."""
    names = []
    name = system.source.word()
    while name != "}":
        if name == "":
            raise Thrown(-15)
        if not is_name(name) or name in names:
            raise Thrown(-14)
        if len(names) == MOST_LOCALS:
            raise Thrown(-20)
        names.append(name)
        name = system.source.word()
    if not names:
        raise Thrown(-14)
    return names


def name_locals(machine, instruction, taken):
    """The act { which names the locals of a definition."""
    definition = innermost(machine.store)
    if definition.rows:
        raise Thrown(-12)
    names = local_names(machine.store)
    add_row(definition, "locals", len(names))
    definition.names = names
    return ()


def postpone(machine, instruction, taken):
    """The act postpone."""
    system = machine.store
    definition = innermost(system)
    number = found_word(system)
    if system.words[number].immediate:
        op, arg = first_of(system.words, number)
        add_row(definition, op, arg)
        return ()
    need_rows(definition, 2)
    add_row(definition, "token", number)
    add_row(definition, "compile", 0)
    return ()


def mark_place(machine, instruction, taken):
    """The act <mark which marks the next place."""
    definition = innermost(machine.store)
    place = len(definition.rows)
    # Places only grow, so a new mark is the greatest one.
    if place not in definition.marks:
        definition.marks.append(place)
    return (place,)


def append_back(machine, instruction, taken):
    """The acts <goto and <unless which lead to a marked place."""
    definition = innermost(machine.store)
    if taken[0] not in definition.marks:
        raise Thrown(-12)
    add_row(definition, instruction[0][1:], taken[0])
    return ()


def append_gap(machine, instruction, taken):
    """The acts goto> and unless> which lead nowhere yet."""
    definition = innermost(machine.store)
    place = len(definition.rows)
    add_row(definition, instruction[0][:-1], NO_PLACE)
    definition.gaps.append(place)
    return (place,)


def land(machine, instruction, taken):
    """The act >land which lets a gap lead to the next place."""
    definition = innermost(machine.store)
    place = taken[0]
    if place not in definition.gaps:
        raise Thrown(-12)
    definition.gaps.remove(place)
    definition.rows[place] = (definition.rows[place][0], len(definition.rows))
    return ()


BUILDING_ACTS = {
    "compile": compile_token, "literal": append_literal, "address": append_address, "local,": append_local,
    "state": leave_state, "[": stop_compiling, "]": start_compiling, ":": begin_word, ";": end_word,
    "[:": begin_quote, ";]": end_quote, "self,": append_recurse, "run,": append_run, "catch,": append_catch,
    "is,": append_is, "to,": append_set, "{": name_locals, "postpone": postpone, "<mark": mark_place,
    "<goto": append_back, "<unless": append_back, "goto>": append_gap, "unless>": append_gap, ">land": land,
}
