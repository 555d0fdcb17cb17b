"""Machines that are saved in the midst of a run, line for line, and loaded again."""

import random

from tests import drawn
from tests.helpers import Case, ops, store_of
from tests.test_session import READER, some_lines
from wordmint.errors import BadImage
from wordmint.machine import Machine
from wordmint.makers import full_actions
from wordmint.reading import Source
from wordmint.saving import save
from wordmint.session import Session
from wordmint.stops import load_run, save_run
from wordmint.stores import Store
from wordmint.system import KERNEL, System

FIRST = len(KERNEL)


def shown(machine):
    """All that a machine shows."""
    store = machine.store
    told = [machine.view(), machine.steps, machine.output, machine.feed, machine.data, machine.frames, machine.actions is None,
            store.width, store.memory.all_bytes(), [word.plain() for word in store], [word.verdict for word in store]]
    if isinstance(store, System):
        told.extend([store.lists.count, store.lists.order, store.lists.into, [one.plain() for one in store.opened], store.compiling,
                     store.caught, store.source.text(), store.source.where()])
    return told


class Base(Case):
    def same(self, machine, steps=300):
        """The loaded machine shows the same, and goes on as the saved one does, which stays."""
        before = shown(machine)
        lines = save_run(machine)
        other = load_run(lines)
        self.assertIs(other.__class__, Machine)
        self.assertIs(other.store.__class__, machine.store.__class__)
        self.assertEqual(shown(other), before)
        self.assertEqual(save_run(other), lines)
        self.assertEqual(shown(machine), before)
        copy = machine.copy()
        for each in (copy, other):
            each.go(steps)
            each.give((1, 2))
            each.go(steps)
        self.assertEqual(shown(copy), shown(other))
        self.assertEqual(shown(machine), before)
        return lines


class Lines(Base):
    def test_the_beginning(self):
        store = store_of("+ exit")
        machine = Machine(store, 0, stack=(1, -2, (0,)), feed=(5, -6), data=8, frames=1)
        self.assertEqual(save_run(machine), ["store 16", "bytes 0a00", "plain = -1 later - + exit", "end", "run runs 0 0 8 1 plain",
                                             "stack 1 -2 w0", "feed 5 -6", "out", "frame 0 0", "own", "locals", "over"])
        self.same(machine)

    def test_the_midst(self):
        store = store_of("locals#2 local#0 >r local#1 >r ask . lit#9 throw r> r> exit", "lit#4 lit#5 token#0 catch#2 exit", "lit#7 token#1 swap token#0 drop call#1 exit")
        machine = Machine(store, 2, stack=(3,), feed=(8,), data=200, frames=200)
        machine.go(15)
        self.assertEqual(save_run(machine)[5:], [
            "end", "run runs 0 15 200 200 plain", "stack 3 w1 7", "feed 8", "out", "frame 2 6", "own", "locals", "frame 1 4", "own", "locals",
            "frame 0 5", "own 4 5", "locals 4 5", "kept 3 w1 7 4 5", "over"])
        self.same(machine)
        machine.go(2)
        self.assertEqual(save_run(machine)[8:10], ["feed", "out 3820"])
        machine.go(2)
        self.assertEqual((save_run(machine)[7], machine.at()), ("stack 3 w1 7 4 5 9", (1, 4)))

    def test_kept_that_is_empty(self):
        store = store_of("exit", "token#0 catch#0 exit")
        machine = Machine(store, 1)
        machine.go(2)
        self.assertEqual(save_run(machine)[-8:], ["frame 1 2", "own", "locals", "frame 0 0", "own", "locals", "kept", "over"])
        self.same(machine)

    def test_each_end(self):
        store = store_of("exit", "lit#5 throw exit", "lit#1 . ask exit", "dup exit", "call#0 exit", "lit#10 emit lit#126 emit exit")
        for number, stack, rooms, line, frames in (
                (0, (), (8, 1), "run done 0 1 8 1 plain", 0), (1, (3,), (8, 1), "run error 5 2 8 1 plain", 0),
                (2, (), (8, 1), "run asks 0 2 8 1 plain", 1), (3, tuple(range(8)), (8, 1), "run over 0 0 8 1 plain", 1),
                (4, (), (9, 1), "run deep 0 0 9 1 plain", 1), (5, (), (64, 48), "run done 0 5 64 48 plain", 0)):
            machine = Machine(store.copy(), number, stack=stack, data=rooms[0], frames=rooms[1])
            machine.go(99)
            lines = self.same(machine)
            self.assertEqual(lines[9], line)
            self.assertEqual(len(lines), 14 + 3 * frames)
            self.assertEqual(lines[12], {2: "out 3120", 5: "out 0a7e"}.get(number, "out"))

    def test_a_system(self):
        session = Session(24)
        session.read(READER)
        system = session.system
        system.source = Source(("", ": x { a bb } [: 1 ;] [: <mark unless> 2", "  and \"more\" "))
        machine = Machine(system, system.number_of("read"), actions=full_actions(), stack=(7,))
        while machine.kind == "runs" and not (len(system.opened) == 2 and len(system.opened[1].rows) == 2):
            machine.step()
        lines = self.same(machine)
        at = lines.index("end")
        number = system.number_of("read") + 1
        self.assertEqual(lines[at:at + 16], [
            "end", "state 1", "caught unless>", "source 1 38 3", "text ", "text : x { a bb } [: 1 ;] [: <mark unless> 2", "text   and \"more\" ",
            "open =x -", f"rows locals 2 token {number}", "names a bb", "marks", "gaps", "open = -", "rows <mark unless>",
            "names", "marks"])

    def test_open_definitions(self):
        session = Session(16)
        outcome = session.read([": m <mark drop ; immediate : g unless> drop ; immediate",
                                ": x ( a b -- c ) { p q } m p g m q to p g [: 1 [: m 2 g m"])
        self.assertEqual(outcome.kind, "done")
        machine = Machine(session.system, 0, stack=(1,), actions=full_actions())
        lines = self.same(machine)
        at = lines.index("end")
        self.assertEqual(lines[at + 1:at + 4], ["state 1", "caught m", "source 2 0 2"])
        self.assertEqual(lines[at + 6:at + 21], [
            "open =x 2:1", "rows locals 2 local 0 unless -1 local 1 set 0 unless -1", "names p q", "marks 1 3", "gaps 2 5",
            "open = -", "rows lit 1", "names", "marks", "gaps", "open = -", "rows lit 2 unless -1", "names", "marks 0 2", "gaps 1"])
        self.assertEqual(lines[at + 21:], ["run runs 0 0 64 48 all", "stack 1", "feed", "out", "frame 0 0", "own", "locals", "over"])

    def test_caught(self):
        for caught in ("", "x", " ", "a b  ", "~" * 200):
            session = Session(16)
            session.system.caught = caught
            lines = self.same(Machine(session.system, 0, stack=(1,)))
            self.assertEqual(lines[5], "caught " + caught)

    def test_stores_without_and_systems_with_acts(self):
        self.assertEqual(save_run(Machine(System(16), 3, stack=(1, 2)))[-8:],
                         ["run runs 0 0 64 48 plain", "stack 1 2", "feed", "out", "frame 3 0", "own", "locals", "over"])
        self.assertIn("run runs 0 0 64 48 all", save_run(Machine(System(16), 3, actions=full_actions())))


class GoingOn(Base):
    def test_drawn_machines(self):
        luck = random.Random(101)
        kinds = set()
        for _ in range(60):
            store = drawn.drawn_store(luck, luck.choice((16, 24, 32)))
            number = luck.randrange(len(store))
            stack = [luck.choice((0, 1, -1, 2, 65, (0,))) for _ in range(luck.randint(0, 6))]
            machine = Machine(store, number, stack=stack, feed=(1, 0), data=luck.choice((8, 64)), frames=luck.choice((2, 48)))
            for moment in range(80):
                if moment % 7 == 0 or machine.kind != "runs":
                    self.same(machine, 100)
                if machine.kind != "runs":
                    break
                machine.step()
            kinds.add(machine.kind)
        self.assertLessEqual({"done", "error", "asks"}, kinds)

    def test_readers_stopped_in_the_midst(self):
        luck = random.Random(102)
        for turn in range(12):
            session = Session((16, 24, 32)[turn % 3])
            session.read(READER)
            machine = session.reader_machine("read", some_lines(luck, 12), feed=(1, 2, 3))
            for moment in range(900):
                if moment % 61 == 0 or machine.kind != "runs":
                    self.same(machine, 2000)
                if machine.kind != "runs":
                    break
                machine.step()

    def test_a_loaded_machine_goes_its_own_way(self):
        session = Session(16)
        session.read(["create c 5 , : w c @ 1 + c ! ; defer d 0 0 : s is d ;"])
        machine = Machine(session.system, session.system.number_of("w"), actions=full_actions())
        machine.go(2)
        other = load_run(save_run(machine))
        before = shown(machine)
        other.go(99)
        other.store.memory.add_byte(1)
        other.store.lists.new()
        other.give((1,))
        self.assertEqual(shown(machine), before)
        self.assertEqual(save(machine.store), save(session.system))

    def test_long_ones(self):
        store = store_of("goto#0", "recurse exit", "lit#33 emit goto#0", "ask exit")
        for number, stack, steps in ((0, tuple(range(200)), 5000), (1, (), 199), (2, (), 20000), (3, (), 1)):
            machine = Machine(store, number, stack=stack, data=200, frames=200, feed=tuple(range(500)) if number == 3 else ())
            machine.go(steps)
            self.same(machine, 100)
        # More items than room.
        machine = Machine(store, 0, stack=tuple(range(9)))
        machine.data = 8
        self.assertEqual(load_run(save_run(machine)).stack, tuple(range(9)))


class Wrong(Base):
    def setUp(self):
        session = Session(16)
        outcome = session.read([": m <mark drop ; immediate : g unless> drop ; immediate : l { a b } b a m ;",
                                ": x ( a b -- c ) { p q } m p g m q to p g [: 1 [: m 2 g m"])
        assert outcome.kind == "done"
        machine = Machine(session.system, session.system.number_of("l"), stack=(3, (FIRST,), -4), feed=(5,), actions=full_actions())
        machine.output = "a\n"
        machine.go(2)
        self.image = save_run(machine)
        self.end = self.image.index("end")
        store = store_of("locals#1 local#0 >r lit#8 throw r> exit", "token#0 catch#1 exit", "lit#3 dup call#1 . exit")
        machine = Machine(store, 2)
        machine.go(6)
        self.plain = save_run(machine)

    def at(self, verb, nth=0):
        """The place of the n-th line that begins so behind the image's end."""
        return [at for at, line in enumerate(self.image) if at > self.end and line.split(" ")[0] == verb][nth]

    def wrong(self, at, *lines, image=None):
        """Each of these lines is wrong at its place, whatever comes behind it."""
        image = self.image if image is None else image
        for line in lines:
            changed = image[:at] + [line] + image[at + 1:]
            self.fails(BadImage, at, load_run, changed)
            for behind in range(at + 1, len(image), 3):
                self.fails(BadImage, at, load_run, changed[:behind] + ["?"] + changed[behind + 1:])
            self.fails(BadImage, at, load_run, changed[:at + 1])

    def good(self, at, *lines, image=None):
        image = self.image if image is None else image
        for line in lines:
            changed = image[:at] + [line] + image[at + 1:]
            self.assertEqual(save_run(load_run(changed)), changed)

    def test_they_are_good(self):
        for image in (self.image, self.plain):
            self.assertEqual(save_run(load_run(image)), image)

    def test_missing_and_more_lines(self):
        for image in (self.image, self.plain):
            for count in range(len(image)):
                self.fails(BadImage, count, load_run, image[:count])
            for more in ("over", "", None, "frame 0 0"):
                self.fails(BadImage, len(image), load_run, image + [more])
            self.fails(BadImage, image.index("end") + 1, load_run, image[:image.index("end") + 1] + image)

    def test_the_image(self):
        for at in range(self.end + 1):
            self.wrong(at, "?", None, self.image[at] + " ")
        self.fails(BadImage, 0, load_run, [])
        self.fails(BadImage, 4, load_run, ["store 16", "bytes 0a00", "deferred = -1 later 0:0 7", "plain = -1 later - exit", "end"] + self.image[self.end + 1:])
        # A store has no lines of a system, and a system must have them.
        self.fails(BadImage, 6, load_run, self.plain[:6] + ["state 0"] + self.plain[6:])
        self.fails(BadImage, self.end + 1, load_run, self.image[:self.end + 1] + self.plain[6:])

    def test_things_that_are_no_lines(self):
        for image in (self.image, self.plain):
            for at in range(image.index("end") + 1, len(image)):
                line = image[at]
                self.wrong(at, None, 5, "", " " + line, "x" + line, line.replace(" ", "\t", 1) + "\t", line.split(), line.split(" ")[0].upper(), image=image)
                if not line.startswith(("text", "caught")):
                    self.wrong(at, line + " ", line + "\n", line + "\xe9", image=image)

    def test_state(self):
        self.wrong(self.at("state"), "state", "state 2", "state -1", "state 01", "state 1 0", "state -")
        self.good(self.at("state"), "state 0")

    def test_caught(self):
        self.wrong(self.at("caught"), "caught", "caught" + chr(9) + "x", "caught \n", "caught \xe9", "caught " + chr(37), "caught " + "x" * 201)
        self.good(self.at("caught"), "caught ", "caught  ", "caught a b", "caught " + "x" * 200)

    def test_source(self):
        at = self.at("source")
        first, second = [len(self.image[at + line][5:]) for line in (1, 2)]
        self.assertEqual(self.image[at], "source 2 0 2")
        self.wrong(at, "source", "source 2 0", "source 2 0 2 0", "source 3 0 2", "source -1 0 2", "source 2 1 2", "source 2 -1 2", "source 0 -1 2",
                   "source 0 201 2", "source 0 0 201", "source 0 0 -1", "source 00 0 2", "source 0 0 02", "source 0 x 2")
        for line in (f"source 0 {first + 1} 2", f"source 1 {second + 1} 2", f"source 0 {first + 1} 1"):
            image = self.image[:at] + [line] + self.image[at + 1:]
            self.fails(BadImage, at, load_run, image)
            for behind in range(at + 3, len(image)):
                self.fails(BadImage, at, load_run, image[:behind] + ["?"] + image[behind + 1:])
        self.good(at, "source 0 0 2", f"source 0 {first} 2", f"source 1 {second} 2", "source 1 0 2")
        # Another count lets the lines behind be wrong.
        self.fails(BadImage, at + 2, load_run, self.image[:at] + ["source 0 0 1"] + self.image[at + 1:])
        self.fails(BadImage, at + 3, load_run, self.image[:at] + ["source 0 0 3"] + self.image[at + 1:])
        self.fails(BadImage, at + 1, load_run, self.image[:at] + ["source 0 0 0"] + self.image[at + 1:])
        image = self.image[:at] + ["source 0 0 0"] + self.image[at + 3:]
        self.assertEqual(save_run(load_run(image)), image)
        # The line that bounds the column is wrong itself.
        self.fails(BadImage, at + 1, load_run, self.image[:at] + ["source 0 200 2", "texts"] + self.image[at + 2:])
        self.fails(BadImage, at, load_run, self.image[:at] + ["source 0 3 2", "text ab"] + self.image[at + 2:])
        self.fails(BadImage, at, load_run, self.image[:at] + ["source 1 3 2", "text", "text ab"] + self.image[at + 3:])

    def test_200_lines(self):
        at = self.at("source")
        image = self.image[:at] + ["source 199 200 200"] + ["text " + "x" * 200] * 200 + self.image[at + 3:]
        self.assertEqual(save_run(load_run(image)), image)
        image[at] = "source 200 0 200"
        self.assertEqual(save_run(load_run(image)), image)
        image[at:at + 1] = ["source 0 0 201", "text "]
        self.fails(BadImage, at, load_run, image)

    def test_text(self):
        for at in (self.at("text"), self.at("text", 1)):
            self.wrong(at, "text", "text \n", "text \xe9", "text " + "x" * 201, "Text ", "tex", "text" + chr(37))
            self.good(at, "text ", "text  ", "text " + "x" * 200)

    def test_open(self):
        at, inner = self.at("open"), self.at("open", 1)
        self.assertEqual((self.image[at], self.image[inner]), ("open =x 2:1", "open = -"))
        self.wrong(at, "open", "open =x", "open x -", "open =x 9:0", "open =" + "x" * 17 + " -", "open =x 2:1 0", "open =x y -", "open =x 2")
        self.good(at, "open =x -", "open =y 0:8", "open =" + "=" * 16 + " 8:8")
        self.wrong(inner, "open =x -", "open = 0:0", "open =x 0:0", "open - =", "open =", "open -")
        # Four may be open at once.
        one = self.image[inner:inner + 5]
        image = self.image[:inner] + one + self.image[inner:]
        self.assertEqual(save_run(load_run(image)), image)
        self.fails(BadImage, inner + 15, load_run, self.image[:inner] + one * 2 + self.image[inner:])

    def test_rows(self):
        at = self.at("rows", 1)
        self.assertEqual(self.image[at], "rows lit 1")
        youngest = FIRST + 2
        self.wrong(at, "rows ", "rows lit", "rows 1", "rows lit 1 2", "rows lit 32768", "rows lit 01", "rows data 2049", "rows nope", f"rows token {youngest + 1}",
                   f"rows call {youngest + 1}", f"rows jump {youngest + 1}", "rows call -1", "rows goto 2", "rows goto -2", "rows unless 2", "rows deferred",
                   "rows forget", "rows dup locals 1", "rows local 0", "rows run 9 0", "rows run 1", "rows catch 9", "rows" + " dup" * 120)
        self.good(at, "rows", "rows lit -32768", f"rows token {youngest} call {youngest}", "rows goto 0", "rows goto 1", "rows exit recurse unless 3", "rows" + " dup" * 119,
                  "rows dup goto 2", f"rows is {youngest} run 8 8 catch 0 : ;")
        # A gap must be among the gaps, in their line.
        self.fails(BadImage, at + 3, load_run, self.image[:at] + ["rows goto -1"] + self.image[at + 1:])
        # Locals must have names.
        self.fails(BadImage, at + 1, load_run, self.image[:at] + ["rows locals 1"] + self.image[at + 1:])

    def test_names(self):
        at = self.at("names")
        self.assertEqual(self.image[at], "names p q")
        self.wrong(at, "names", "names p", "names p q r", "names p  q", "names p " + "q" * 17, "names p q ", "name p q", "names p \xe9")
        self.good(at, "names q p", "names = " + "q" * 16)
        self.wrong(self.at("names", 1), "names p", "names ")

    def test_marks(self):
        at = self.at("marks")
        self.assertEqual(self.image[at], "marks 1 3")
        self.wrong(at, "marks 3 1", "marks 1 1", "marks -1", "marks x", "marks 01", "marks 1,3", "marks ", "marks 7")
        self.good(at, "marks", "marks 0 1 2 3 4 5 6", "marks 6")

    def test_gaps(self):
        at = self.at("gaps")
        self.assertEqual(self.image[at], "gaps 2 5")
        self.wrong(at, "gaps", "gaps 5 2", "gaps 2 2 5", "gaps 2", "gaps 2 5 5", "gaps -1 2 5", "gaps 1 2 5", "gaps 02 5", "gaps ")

    def test_run(self):
        at = self.at("run")
        self.assertEqual(self.image[at], "run runs 0 2 64 48 all")
        self.wrong(at, "run", "run runs", "run runs 0 2 64 48", "run runs 0 2 64 48 all 0", "run run 0 2 64 48 all", "run Runs 0 2 64 48 all",
                   "run steps 0 2 64 48 all", "run runs 1 2 64 48 all", "run runs -1 2 64 48 all", "run done 5 2 64 48 all", "run asks 5 2 64 48 all",
                   "run over 5 2 64 48 all", "run deep -3 2 64 48 all", "run error 0 2 64 48 all", "run error 32768 2 64 48 all",
                   "run error -32769 2 64 48 all", "run runs 0 -1 64 48 all", "run runs 0 02 64 48 all", "run runs 0 2 7 48 all",
                   "run runs 0 2 201 48 all", "run runs 0 2 64 0 all", "run runs 0 2 64 201 all", "run runs 0 2 64 48 none", "run runs 0 2 064 48 all",
                   "run runs 0 2 64 48 1", "run runs 0 2 64 -1 all", "run runs - 2 64 48 all", "run runs 0 + 64 48 all")
        self.good(at, "run asks 0 2 64 48 all", "run over 0 2 8 1 all", "run deep 0 0 200 200 plain", "run runs 0 123456789012345678901234567890 8 1 all")

    def test_stack_and_feed(self):
        at = self.at("stack")
        self.assertEqual(self.image[at], "stack 3 -4")
        self.wrong(at, "stack 32768", "stack -32769", "stack w", f"stack w{FIRST + 3}", "stack w-1", "stack w00", "stack W1", "stack 1 w01", "stack +1",
                   "stack -0", "stack 1  2", "stack x", "stack (1)", "stack ww1", "stack 1w")
        self.good(at, "stack", "stack 32767 -32768 w0", f"stack w{FIRST + 2}", "stack" + " 1" * 300)
        at = self.at("feed")
        self.wrong(at, "feed w0", "feed 32768", "feed -32769", "feed 01", "feed -", "feed  5")
        self.good(at, "feed", "feed 32767 -32768 0", "feed" + " 1" * 300)

    def test_out(self):
        at = self.at("out")
        self.assertEqual(self.image[at], "out 610a")
        self.wrong(at, "out ", "out 6", "out 61 0a", "out 610A", "out 0", "out 00", "out 1f", "out 7f", "out 25", "out 61ff", "out 610a ", "out x")
        self.good(at, "out", "out 0a", "out 20247e26", "out " + "21" * 3000)

    def test_frames(self):
        at = self.at("frame")
        number = FIRST + 2
        self.assertEqual(self.image[at:at + 3], [f"frame {number} 2", "own", f"locals w{FIRST} -4"])
        self.wrong(at, "frame", f"frame {number}", f"frame {number} 2 0", f"frame {number + 1} 0", "frame -1 0", f"frame {number} 5", f"frame {number} -1",
                   f"frame {number} 02", f"frame w{number} 2", f"frame {number} x", "frames 0 0")
        self.good(at, f"frame {number} 0", f"frame {number} 3")
        self.wrong(at + 1, "own 32768", "own w400", "own x", "owns", "own  1", "locals")
        self.good(at + 1, "own 1 w0 -5", "own" + " 7" * 250)
        # As many locals as the word names, or none at place 0.
        self.wrong(at + 2, "locals", "locals 1", "locals 1 2 3", "locals 1 x", "local 1 2", "locals 1  2")
        self.good(at + 2, "locals 1 w0")
        image = self.image[:at] + [f"frame {number} 0"] + self.image[at + 1:]
        self.wrong(at + 2, "locals 1", "locals 1 2 3", image=image)
        self.good(at + 2, "locals", "locals 1 2", image=image)
        image = self.image[:at] + ["frame 0 1"] + self.image[at + 1:]
        self.fails(BadImage, at + 2, load_run, image)
        self.good(at + 2, "locals", image=image)
        image[at] = "frame 0 2"
        self.fails(BadImage, at, load_run, image)

    def test_kept(self):
        at = [at for at, line in enumerate(self.plain) if line.startswith("kept")][0]
        self.assertEqual(self.plain[at - 3:at + 2], ["frame 0 1", "own", "locals 3", "kept 3 3", "over"])
        self.wrong(at, "kept 32768", "kept w3", "kept  3", "kepts 3", image=self.plain)
        self.good(at, "kept", "kept w2 -1", image=self.plain)
        self.fails(BadImage, at + 1, load_run, self.plain[:at + 1] + self.plain[at:])
        image = self.plain[:at] + self.plain[at + 1:]
        self.assertEqual(save_run(load_run(image)), image)

    def test_frames_of_ended_runs(self):
        at, first = self.at("run"), self.at("frame")
        for line in ("run done 0 2 64 48 all", "run error -1 2 64 48 all"):
            image = self.image[:at] + [line] + self.image[at + 1:]
            self.fails(BadImage, first, load_run, image)
            self.fails(BadImage, first, load_run, image[:first] + ["frame x"])
            image = image[:first] + ["over"]
            self.assertEqual(save_run(load_run(image)), image)
        for kind in ("runs", "asks", "over", "deep"):
            image = self.image[:at] + [f"run {kind} 0 2 64 48 all"] + self.image[at + 1:first]
            self.fails(BadImage, first, load_run, image + ["over"])
            self.fails(BadImage, first, load_run, image + ["over", "x"])
            self.fails(BadImage, first, load_run, image)

    def test_more_frames_than_room(self):
        at, first = self.at("run"), self.at("frame")
        image = self.image[:at] + ["run runs 0 2 8 1 all"] + self.image[at + 1:first] + self.image[first:-1] * 3 + ["over"]
        self.assertEqual(len(load_run(image).calls), 3)

    def test_no_open_definition(self):
        at, run = self.at("open"), self.at("run")
        image = self.image[:at] + self.image[run:]
        image[self.at("state")] = "state 0"
        self.assertEqual(save_run(load_run(image)), image)

    def test_lines_at_random(self):
        luck = random.Random(103)
        loads = 0
        for image in (self.image, self.plain):
            for _ in range(2000):
                lines = list(image)
                at = luck.randrange(image.index("end"), len(lines))
                line = lines[at]
                place = luck.randint(0, len(line))
                lot = luck.random()
                if lot < 0.45:
                    lines[at] = line[:place] + luck.choice("0123456789-=:w x") + line[place:]
                elif lot < 0.9:
                    lines[at] = line[:place] + line[place + 1:]
                else:
                    lines[at] = luck.choice(image)
                try:
                    machine = load_run(lines)
                except BadImage:
                    continue
                loads += 1
                self.assertEqual(save_run(machine), lines)
        self.assertGreater(loads, 200)


if __name__ == "__main__":
    import unittest
    unittest.main()
