"""The building acts that make named words outside of definitions, those of lists, and what markers do."""

from wordmint.definitions import need_closed, need_words
from wordmint.errors import LastList, NoList, Thrown, TooMany
from wordmint.kinds import acting, deferred_word, made_word, marker_word, now
from wordmint.lists import Lists
from wordmint.memory import Memory
from wordmint.scanning import digits, new_name
from wordmint.stores import add_word


def youngest_named(words):
    """The number of the youngest word that has a name."""
    number = len(words) - 1
    while words[number].name == "":
        number -= 1
    return number


def make_immediate(machine, instruction, taken):
    """The act immediate."""
    system = machine.store
    need_closed(system)
    number = youngest_named(system.words)
    word = system.words[number]
    if word.kind == "kernel":
        raise Thrown(-11)
    system.words[number] = now(word)
    return ()


def create(machine, instruction, taken):
    """The act create."""
    system = machine.store
    need_closed(system)
    name = new_name(system)
    need_words(system)
    add_word(system, made_word(system.words, name, system.lists.into, False, len(system.memory), None))
    return ()


def behave(machine, instruction, taken):
    """The act behave."""
    system = machine.store
    need_closed(system)
    number = len(system.words) - 1
    word = system.words[number]
    behaviour = taken[0][0]
    if word.kind != "made" or word.behaviour is not None or behaviour == number:
        raise Thrown(-11)
    if any([other.action == number for other in system.words]):
        raise Thrown(-19)
    system.words[number] = made_word(system.words, word.name, word.home, word.immediate, word.address, behaviour)
    return ()


def defer(machine, instruction, taken):
    """The act defer."""
    system = machine.store
    need_closed(system)
    name = new_name(system)
    declared = tuple(digits(system, 2))
    need_words(system)
    add_word(system, deferred_word(system.words, name, system.lists.into, False, declared, None))
    return ()


def make_marker(machine, instruction, taken):
    """The act marker."""
    system = machine.store
    need_closed(system)
    name = new_name(system)
    need_words(system)
    lists = system.lists
    actions = tuple([word.action for word in system.words if word.kind == "deferred"])
    keeps = (lists.count, lists.order, lists.into, system.memory.all_bytes(), actions)
    add_word(system, marker_word(system.words, name, lists.into, False, keeps))
    return ()


def refers(items, number):
    """Whether one of the items is a token of this word or a younger one."""
    return any([isinstance(item, tuple) and item[0] >= number for item in items])


def need_free(machine, number):
    """Throws an error if something that stays refers to this word or a younger one; the last frame goes."""
    if refers(machine.pile, number):
        raise Thrown(-19)
    for frame in machine.calls[:-1]:
        kept = () if frame.kept is None else frame.kept
        if frame.number >= number or refers([*frame.own, *frame.locals, *kept], number):
            raise Thrown(-19)


def put_back(system, number):
    """Makes the system what it was ahead of the marker with this number."""
    count, order, into, row, actions = system.words[number].keeps
    words = list(system.words[:number])
    deferred = [place for place, word in enumerate(words) if word.kind == "deferred"]
    for place, action in zip(list(deferred), list(actions)):
        words[place] = acting(words[place], action)
    system.words = words
    system.memory = Memory.of(system.width, row)
    system.lists = Lists(count, order, into)


def forget(machine, instruction, taken):
    """The act forget, which ends the frame of a marker and puts back what it keeps."""
    need_closed(machine.store)
    frame = machine.calls[-1]
    need_free(machine, frame.number)
    machine.calls.pop()
    if not machine.calls:
        machine.kind = "done"
    put_back(machine.store, frame.number)
    return () if frame.kept is None else (0,)


def make_list(machine, instruction, taken):
    """The act new-list."""
    try:
        return (machine.store.lists.new(),)
    except TooMany:
        raise Thrown(-16) from None


def search_first(machine, instruction, taken):
    """The act also."""
    try:
        machine.store.lists.also(taken[0])
    except NoList:
        raise Thrown(-16) from None
    except TooMany:
        raise Thrown(-16) from None
    return ()


def begin_list(machine, instruction, taken):
    """The act into."""
    try:
        machine.store.lists.begin(taken[0])
    except NoList:
        raise Thrown(-16) from None
    return ()


def drop_list(machine, instruction, taken):
    """The act previous."""
    try:
        machine.store.lists.previous()
    except LastList:
        raise Thrown(-16) from None
    return ()


NAMING = {
    "immediate": make_immediate, "create": create, "behave": behave, "defer": defer, "marker": make_marker,
    "forget": forget, "new-list": make_list, "also": search_first, "into": begin_list, "previous": drop_list,
}
