"""Copies, and readings of short texts, cost what their parts cost."""

import time
import unittest

from tests.helpers import store_of
from wordmint.engine import Engine, Program
from wordmint.machine import Machine
from wordmint.makers import full_actions
from wordmint.session import Session
from wordmint.system import System

TEXT = [
    ": if unless> ; immediate : then >land ; immediate : else goto> swap >land ; immediate",
    ": begin <mark ; immediate : until <unless ; immediate", "create v 0 , : bump v @ 1 + v ! ;", ": sq ( n -- n ) dup * ;",
    ": choose if 1 2 + else 3 then ;", "defer later 1 1 : set is later ; ' sq set", ": count 5 begin dup . 1 - dup 0= until drop ;",
    "bump bump 3 sq drop 7 later drop", "count 0 choose 1 choose + drop", ": k create , [: @ ;] behave ; 5 k five five drop",
]


def least_time(times, call):
    """The least time that so many calls took, of several tries: others may be at work beside the tests."""
    told = []
    for _ in range(5):
        begin = time.perf_counter()
        for _ in range(times):
            call()
        told.append(time.perf_counter() - begin)
    return min(told)


class Speed(unittest.TestCase):
    def setUp(self):
        self.session = Session(16)
        self.assertTrue(self.session.read(TEXT))
        self.making = least_time(50, lambda: Session(16))

    def test_copies_of_sessions(self):
        self.assertLess(least_time(100, self.session.copy), self.making)
        self.assertLess(least_time(100, self.session.system.copy), self.making)
        self.assertLess(least_time(100, lambda: Session.of(self.session.system)), self.making)

    def test_readings_of_short_texts(self):
        self.assertLess(least_time(100, lambda: self.session.read([])), self.making)
        self.assertLess(least_time(100, lambda: self.session.read(["5 sq drop"])), 3 * self.making)

    def test_copies_of_machines_and_engines(self):
        machine = Machine(self.session.system, 0, stack=(1,), actions=full_actions())
        self.assertLess(least_time(100, machine.copy), self.making)
        engine = Engine(Program(self.session.system), self.session.system, 0, stack=(1,), actions=full_actions())
        self.assertLess(least_time(100, engine.copy), self.making)

    def test_many_texts(self):
        """A text that is read line by line, with copies of the session that read the line, too."""
        def read_all():
            session = Session(16)
            for line in TEXT:
                session.copy().read([line])
                session.copy()([line])
                session.read([line])
        # 50 systems take about 6 milliseconds where this was written, and a text about 3.
        self.assertLess(least_time(4, read_all), 7 * self.making)


class Copies(unittest.TestCase):
    """A copy has all that there was, and goes its own way."""

    def test_systems(self):
        session = Session(16)
        session.read(TEXT)
        self.assertTrue(session.read([": open { a b } a [: 3", "1 2"]))
        system = session.system
        copy = system.copy()
        self.assertIs(copy.__class__, System)
        self.assertEqual(copy, system)
        self.assertEqual((copy.source.text(), copy.source.where(), copy.caught, copy.width), (system.source.text(), system.source.where(), system.caught, 16))
        parts = ("memory", "words", "lists", "opened", "source")
        for name in parts:
            self.assertIsNot(getattr(copy, name), getattr(system, name), name)
        for one, two in zip(copy.opened, system.opened):
            for name in ("rows", "names", "marks", "gaps"):
                self.assertIsNot(getattr(one, name), getattr(two, name))
        before = system.copy()
        copy.memory.add_byte(1)
        copy.lists.new()
        copy.opened[0].rows.append(("dup", 0))
        copy.source.word()
        copy.words.pop()
        self.assertEqual(system, before)
        self.assertEqual(system.source.where(), before.source.where())

    def test_stores(self):
        store = store_of("dup exit", width=24)
        copy = store.copy()
        self.assertEqual((copy, copy.width, copy.memory.width), (store, 24, 24))
        self.assertIsNot(copy.memory, store.memory)
        self.assertIsNot(copy.words, store.words)

    def test_sessions(self):
        session = Session(32, data=20, frames=9)
        session.read(["1 2"])
        copy = session.copy()
        self.assertEqual((copy.stack, copy.data, copy.frames, copy.system), ((1, 2), 20, 9, session.system))
        self.assertIsNot(copy.system, session.system)
        copy.read(["+ : x ;"])
        self.assertEqual((session.stack, session.system), ((1, 2), Session(32).system))
        other = Session.of(copy.system)
        self.assertEqual((other.stack, other.data, other.frames, other.system), ((), 64, 48, copy.system))
        self.assertIsNot(other.system, copy.system)


if __name__ == "__main__":
    unittest.main()
