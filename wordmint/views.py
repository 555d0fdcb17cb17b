"""Threaded views: an engine, seen as the machine that runs the bodies."""

from wordmint.code import end_of_steps
from wordmint.machine import Machine
from wordmint.rows import item_of

ENDED_KINDS = ("done", "error")


def place_behind(code, row):
    """The place of the body behind the call that the row ahead of this one does."""
    place, layout = code.paper[row - 1]
    place, _ = end_of_steps(code.subject.body, place, layout)
    return place + 1


def threaded(engine):
    """The machine that stands where an engine stands, with a copy of the store."""
    view = Machine(engine.store.copy(), 0, actions=engine.actions, data=engine.data, frames=engine.frames, like=engine)
    view.steps = 0
    if view.kind not in ENDED_KINDS:
        view.kind = "runs"
    last = len(view.calls) - 1
    for at, frame in enumerate(list(view.calls)):
        code = frame.code
        if code is None:
            continue
        if at < last:
            frame.place = place_behind(code, frame.place)
        else:
            place, layout = code.paper[frame.place]
            view.pile.extend([item_of(frame, source) for source in layout])
            frame.place = place
        frame.run_body()
    return view


def views(engine, steps):
    """Yields the view of the threaded view and then does a step, at most so many, as long as the engine runs."""
    for _ in range(steps):
        if engine.kind != "runs":
            return
        yield threaded(engine).view()
        engine.step()
