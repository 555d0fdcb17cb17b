"""What the instructions do that move the place otherwise than by one, or that make and end frames.

A move is passed the machine, its last frame and the argument, when the stack has the items that are due; it takes
them off itself. It throws or halts before it changes anything.
"""

from wordmint.errors import Thrown, Unfit
from wordmint.forms import fits
from wordmint.frames import Halt


def begin(machine, number, kept):
    """Begins a frame of a word."""
    if len(machine.calls) >= machine.frames:
        raise Halt("deep")
    machine.calls.append(machine.new_frame(number, kept))


def top_word(machine, wanted):
    """The word of the token on top of the stack, whose effect must fit the wanted one."""
    number = machine.pile[-1][0]
    if not fits(machine.store.words[number].effect, wanted):
        raise Thrown(-8)
    return number


def go_to(machine, frame, arg):
    """The move goto."""
    frame.place = arg


def go_unless(machine, frame, arg):
    """The move unless."""
    number = machine.pile.pop()
    frame.place = arg if number == 0 else frame.place + 1


def call(machine, frame, arg):
    """The move call."""
    begin(machine, arg, None)
    frame.place += 1


def call_itself(machine, frame, arg):
    """The move recurse."""
    begin(machine, frame.number, None)
    frame.place += 1


def jump(machine, frame, arg):
    """The move jump."""
    frame.need_no_own()
    frame.become(arg, machine.code_for(arg))


def end(machine, frame, arg):
    """The move exit."""
    frame.need_no_own()
    machine.calls.pop()
    if frame.kept is not None:
        machine.pile.append(0)
    if not machine.calls:
        machine.kind = "done"


def perform(machine, frame, arg):
    """The move perform."""
    begin(machine, machine.pile[-1][0], None)
    machine.pile.pop()
    frame.place += 1


def run(machine, frame, arg):
    """The move run."""
    begin(machine, top_word(machine, arg), None)
    machine.pile.pop()
    frame.place += 1


def catch(machine, frame, arg):
    """The move catch."""
    begin(machine, top_word(machine, (arg, arg)), tuple(machine.pile[:-1]))
    machine.pile.pop()
    frame.place += 1


def give_action(machine, frame, arg):
    """The move is."""
    try:
        machine.store.act(arg, machine.pile[-1][0])
    except Unfit:
        raise Thrown(-8) from None
    machine.pile.pop()
    frame.place += 1


def do_action(machine, frame, arg):
    """The move deferred."""
    action = machine.store.words[frame.number].action
    if action is None:
        raise Thrown(-9)
    frame.become(action, machine.code_for(action))


MOVES = {
    "goto": go_to, "unless": go_unless, "call": call, "recurse": call_itself, "jump": jump, "exit": end,
    "perform": perform, "run": run, "catch": catch, "is": give_action, "deferred": do_action,
}
