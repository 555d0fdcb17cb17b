"""Machines that are stopped in the midst of a run: the lines that tell of them, and the machines of such lines."""

from wordmint.cells import half, is_between
from wordmint.definitions import MOST_OPEN, MOST_ROWS
from wordmint.forms import PLACE_OPS, is_argument, locals_of
from wordmint.frames import Frame
from wordmint.images import Lines, bytes_in, hex_of, spelled, spelled_effect, spelled_rows
from wordmint.machine import LEAST_DATA, MOST_DATA, MOST_FRAMES, Machine
from wordmint.makers import full_actions
from wordmint.reading import MOST_LINES, MOST_SIGNS, Source, is_line, is_name, printed
from wordmint.saving import image_of, loaded
from wordmint.system import Definition, System

RUN_KINDS = ("runs", "done", "error", "asks", "over", "deep")
ENDED_KINDS = ("done", "error")
ACTS = ("plain", "all")
LAST = "over"
TOKEN_SIGN = "w"
NO_PLACE = -1


def spelled_item(item):
    """The word for an item."""
    return f"{TOKEN_SIGN}{item[0]}" if isinstance(item, tuple) else str(item)


def items_line(verb, items):
    """A line of items."""
    return spelled([verb, *[spelled_item(item) for item in items]])


def definition_lines(definition):
    """The lines for an open definition."""
    return [spelled(["open", "=" + definition.name, spelled_effect(definition.declared)]),
            spelled(["rows", *spelled_rows(definition.rows)]), spelled(["names", *definition.names]),
            spelled(["marks", *definition.marks]), spelled(["gaps", *definition.gaps])]


def system_lines(system):
    """The lines for what a system is reading and making."""
    source = system.source
    texts = source.text()
    lines = [spelled(["state", 1 if system.compiling else 0]), "caught " + system.caught,
             spelled(["source", source.line, source.column, len(texts)])]
    lines.extend(["text " + line for line in texts])
    for definition in list(system.opened):
        lines.extend(definition_lines(definition))
    return lines


def frame_lines(frame):
    """The lines for a frame."""
    lines = [spelled(["frame", frame.number, frame.place]), items_line("own", frame.own),
             items_line("locals", frame.locals)]
    if frame.kept is not None:
        lines.append(items_line("kept", frame.kept))
    return lines


def output_line(output):
    """The line for what was printed."""
    return spelled(["out", hex_of([ord(sign) for sign in output])]) if output != "" else "out"


def save_run(machine):
    """The lines for a machine and its store."""
    store = machine.store
    lines = image_of(store)
    if isinstance(store, System):
        lines.extend(system_lines(store))
    acts = ACTS[0] if machine.actions is None else ACTS[1]
    lines.append(spelled(["run", machine.kind, machine.number, machine.steps, machine.data, machine.frames, acts]))
    lines.append(items_line("stack", machine.stack))
    lines.append(items_line("feed", machine.feed))
    lines.append(output_line(machine.output))
    for frame in list(machine.calls):
        lines.extend(frame_lines(frame))
    lines.append(LAST)
    return lines


class Stand:
    """Where a machine stands that lines tell of."""

    def __init__(self):
        self.kind = "runs"
        self.number = 0
        self.steps = 0
        self.output = ""
        self.pile = []
        self.given = []
        self.calls = []


def number_of_width(lines, width, word):
    """The number of the width that a word is."""
    bound = half(width)
    return lines.number_in(word, -bound, bound - 1)


def item_in(lines, store, word):
    """The item that a word is."""
    if word.startswith(TOKEN_SIGN):
        return (lines.number_in(word[1:], 0, len(store.words) - 1),)
    return number_of_width(lines, store.width, word)


def items_in(lines, store, verb):
    """The items that a line tells."""
    return [item_in(lines, store, word) for word in lines.words_of_line(verb)]


def pass_items(lines, store, verb):
    """Passes a line of items; their list."""
    items = items_in(lines, store, verb)
    lines.pass_line()
    return items


def pass_flag(lines):
    """Passes the line of the mark whether the system is compiling."""
    words = lines.counted("state", 1)
    compiling = lines.choice_in(words[0], ("0", "1")) == 1
    lines.pass_line()
    return compiling


def pass_caught(lines):
    """Passes the line of the caught word."""
    caught = lines.text_behind("caught")
    lines.must(is_line(caught))
    lines.pass_line()
    return caught


def pass_text(lines, count):
    """Passes the lines of a text; their list."""
    texts = []
    for _ in range(count):
        text = lines.text_behind("text")
        lines.must(is_line(text))
        texts.append(text)
        lines.pass_line()
    return texts


def pass_source(lines):
    """Passes the lines of a source."""
    words = lines.counted("source", 3)
    count = lines.number_in(words[2], 0, MOST_LINES)
    line = lines.number_in(words[0], 0, count)
    column = lines.number_in(words[1], 0, 0 if line == count else MOST_SIGNS)
    # The length of a line that is told further on bounds the column here.
    text = lines.line_ahead(line + 1)
    lines.must(line == count or not text.startswith("text ") or column <= len(text) - len("text "))
    lines.pass_line()
    source = Source(pass_text(lines, count))
    source.line = line
    source.column = column
    return source


def is_row_of(rows, width, number, place):
    """Whether the instruction at a place may stand in an open definition, where gaps lead to -1."""
    op, arg = rows[place]
    if op == "locals" and place > 0:
        return False
    if op in PLACE_OPS:
        return is_between(arg, NO_PLACE, len(rows))
    return is_argument(width, rows, number, op, arg)


def pass_rows(lines, system):
    """Passes the line of the instructions of an open definition."""
    rows = lines.rows_in(lines.words_of_line("rows"))
    lines.must(len(rows) <= MOST_ROWS)
    number = len(system.words)
    lines.must(all([is_row_of(rows, system.width, number, place) for place in range(len(rows))]))
    lines.pass_line()
    return list(rows)


def pass_names(lines, rows):
    """Passes the line of the names of the locals of an open definition."""
    names = lines.words_of_line("names")
    lines.must(len(names) == (locals_of(rows) if rows else 0) and all([is_name(name) for name in names]))
    lines.pass_line()
    return names


def places_in(lines, verb, most):
    """The places that a line tells, which are ascending."""
    places = [lines.number_in(word, 0, most) for word in lines.words_of_line(verb)]
    lines.must(places == sorted({place for place in places}))
    return places


def gaps_of(rows):
    """The places of the instructions that lead nowhere yet."""
    return [place for place, (op, arg) in enumerate(rows) if op in PLACE_OPS and arg == NO_PLACE]


def pass_definition(lines, system):
    """Passes the lines of an open definition; only the outermost one has a name or an effect."""
    words = lines.counted("open", 2)
    lines.must(len(system.opened) < MOST_OPEN)
    name = lines.name_in(words[0])
    declared = lines.effect_in(words[1])
    lines.must(not system.opened or (name == "" and declared is None))
    lines.pass_line()
    definition = Definition(name, declared)
    definition.rows = pass_rows(lines, system)
    definition.names = pass_names(lines, definition.rows)
    definition.marks = places_in(lines, "marks", len(definition.rows))
    lines.pass_line()
    definition.gaps = places_in(lines, "gaps", len(definition.rows))
    lines.must(definition.gaps == gaps_of(definition.rows))
    lines.pass_line()
    return definition


def pass_system(lines, system):
    """Passes the lines for what a system is reading and making."""
    system.compiling = pass_flag(lines)
    system.caught = pass_caught(lines)
    system.source = pass_source(lines)
    while lines.first_word() == "open":
        system.opened.append(pass_definition(lines, system))


def pass_run(lines, store, stand):
    """Passes the line of a run; both rooms, and the building acts or None."""
    words = lines.counted("run", 6)
    stand.kind = RUN_KINDS[lines.choice_in(words[0], RUN_KINDS)]
    stand.number = number_of_width(lines, store.width, words[1])
    lines.must((stand.number != 0) == (stand.kind == "error"))
    stand.steps = lines.number_in(words[2], 0, None)
    data = lines.number_in(words[3], LEAST_DATA, MOST_DATA)
    frames = lines.number_in(words[4], 1, MOST_FRAMES)
    actions = None if lines.choice_in(words[5], ACTS) == 0 else full_actions()
    lines.pass_line()
    return (data, frames, actions)


def pass_feed(lines, width):
    """Passes the line of the feed; the list of its numbers."""
    numbers = [number_of_width(lines, width, word) for word in lines.words_of_line("feed")]
    lines.pass_line()
    return numbers


def pass_output(lines):
    """Passes the line of what was printed."""
    words = lines.words_of_line("out")
    lines.must(len(words) <= 1 and words != [""])
    codes = bytes_in(words[0]) if words else ()
    lines.must(codes is not None and all([printed(code) != "" for code in codes]))
    lines.pass_line()
    return "".join([printed(code) for code in codes])


def pass_frame(lines, store):
    """Passes the lines of a frame."""
    words = lines.counted("frame", 2)
    number = lines.number_in(words[0], 0, len(store.words) - 1)
    body = store.words[number].body
    place = lines.number_in(words[1], 0, len(body) - 1)
    lines.pass_line()
    own = pass_items(lines, store, "own")
    named = items_in(lines, store, "locals")
    lines.must(len(named) == locals_of(body) or (place == 0 and not named))
    lines.pass_line()
    kept = tuple(pass_items(lines, store, "kept")) if lines.first_word() == "kept" else None
    frame = Frame(number, kept)
    frame.place = place
    frame.own = own
    frame.locals = named
    return frame


def load_run(lines):
    """The machine that lines tell of."""
    cursor = Lines(lines)
    store = loaded(cursor)
    if isinstance(store, System):
        pass_system(cursor, store)
    stand = Stand()
    data, frames, actions = pass_run(cursor, store, stand)
    stand.pile = pass_items(cursor, store, "stack")
    stand.given = pass_feed(cursor, store.width)
    stand.output = pass_output(cursor)
    while cursor.first_word() == "frame":
        cursor.must(stand.kind not in ENDED_KINDS)
        stand.calls.append(pass_frame(cursor, store))
    cursor.must(stand.kind in ENDED_KINDS or len(stand.calls) > 0)
    cursor.pass_whole(LAST)
    cursor.pass_end()
    return Machine(store, 0, actions=actions, data=data, frames=frames, like=stand)
