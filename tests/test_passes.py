"""The passes: each rule where it fits and where it just does not, where gotos lead then, and settling."""

import random

from tests import drawn, plain_passes, reference
from tests.helpers import Case, ops, store_of
from wordmint.errors import NoWord
from wordmint.passes import Fold, Inline, Named, Pass, Tail, Thread, Trim, settle
from wordmint.stores import Store
from wordmint.system import System

ALL = (Inline, Fold, Thread, Trim, Tail)


class Base(Case):
    one = None

    def becomes(self, before, after, *older, width=16, declared=None):
        """The pass makes this body of that one; older words are told ahead."""
        store = store_of(*older, width=width)
        body = ops(before)
        number = store.define(body, declared=declared)
        copy = store.copy()
        told = self.one(store, number, body)
        self.assertEqual((before, told), (before, ops(after)))
        self.assertIs(told.__class__, tuple)
        self.assertEqual(body, ops(before))
        self.assertEqual(store, copy)

    def stays(self, text, *older, **named):
        self.becomes(text, text, *older, **named)


class Names(Case):
    def test_spelled(self):
        self.assertEqual([one().spelled() for one in ALL], ["inline", "fold", "thread", "trim", "tail"])
        for one in ALL:
            self.assertIsInstance(one(), Named)
            self.assertIsInstance(one(), Pass)

    def test_added(self):
        both = Inline() + Fold()
        self.assertIsInstance(both, Pass)
        self.assertEqual(both.spelled(), "inline+fold")
        self.assertEqual((both + Trim() + Tail()).spelled(), "inline+fold+trim+tail")
        self.assertEqual((Trim() + (both + Trim())).spelled(), "trim+inline+fold+trim")
        with self.assertRaises(TypeError):
            Inline() + "fold"

    def test_one_behind_the_other(self):
        store = store_of("lit#1 exit", "call#0 lit#2 + drop exit")
        body = store[1].body
        self.assertEqual((Inline() + Fold())(store, 1, body), ops("exit"))
        self.assertEqual((Fold() + Inline())(store, 1, body), ops("lit#1 lit#2 + drop exit"))

    def test_no_word(self):
        store = store_of("exit", "exit")
        for number in (-1, 2, True, None, "0"):
            for one in (*[each() for each in ALL], Inline() + Fold()):
                self.fails(NoWord, number, one, store, number, ops("exit"))
            self.fails(NoWord, number, settle, Fold(), store, number, ops("exit"))


class Inlining(Base):
    one = Inline()

    def test_small_words(self):
        self.becomes("call#0 call#0 exit", "dup * dup * exit", "dup * exit")
        self.becomes("lit#1 call#0 exit", "lit#1 exit", "exit")
        self.becomes("call#0 exit", "ask throw here c, >r r> exit",
                     "ask throw here c, >r r> exit")

    def test_what_was_put_in_is_not_looked_at_again(self):
        self.becomes("call#1 exit", "call#0 call#0 exit", "dup * exit", "call#0 call#0 exit")

    def test_words_that_are_not_small(self):
        self.becomes("call#0 exit", "dup drop dup drop dup drop exit", "dup drop dup drop dup drop exit")
        self.stays("call#0 exit", "dup drop dup drop dup drop dup exit")
        self.stays("lit#1 call#0 exit", "unless#1 exit")
        self.stays("call#0 exit", "goto#1 exit")
        self.stays("call#0 exit", "lit#1 unless#3 exit exit")
        self.stays("call#0 exit", "exit exit")
        self.stays("call#1 exit", "exit", "jump#0")
        self.stays("call#1 exit", "exit", "lit#0 throw jump#0")
        self.stays("lit#1 call#0 exit", "locals#1 exit")
        self.stays("lit#1 call#0 drop exit", ("dup unless#3 recurse exit", (1, 1)))
        self.stays("call#0 exit", "perform exit")
        self.stays("call#0 exit", "goto#0")

    def test_kinds(self):
        store = Store(16)
        store.defer((0, 0))
        number = store.define(ops("call#0 exit"))
        self.assertEqual(Inline()(store, number, ops("call#0 exit")), ops("call#0 exit"))
        system = System(16)
        body = (("call", 0), ("exit", 0))
        number = system.define(body)
        self.assertEqual(Inline()(system, number, body), body)

    def test_jumps_and_tokens_stay(self):
        self.stays("token#0 drop jump#0", "exit")

    def test_where_gotos_lead(self):
        self.becomes("here unless#3 call#0 call#0 lit#5 drop goto#2", "here unless#4 dup drop dup drop lit#5 drop goto#2",
                     "dup drop exit")
        # A call that is exchanged for nothing: gotos to it lead to the next instruction that stays.
        self.becomes("here unless#3 goto#5 call#0 call#0 dup goto#0", "here unless#3 goto#3 dup goto#0", "exit")

    def test_as_long_as_there_is_room(self):
        six = "lit#1 drop lit#1 drop lit#1 drop"
        for length, fits in ((395, True), (396, False)):
            head = "here drop " * 200
            head = " ".join(head.split()[:length - 2])
            store = store_of(six + " exit", width=16)
            body = ops(head + " call#0 exit")
            self.assertEqual(len(body), length)
            number = store.define(body)
            told = Inline()(store, number, body)
            self.assertEqual(told, ops(head + " " + six + " exit") if fits else body)

    def test_a_later_call_may_still_have_room(self):
        store = store_of("lit#1 drop lit#1 drop exit", "here exit", "exit")
        head = "here drop " * 197
        body = ops(head + "call#0 call#1 drop call#0 call#2 exit")
        self.assertEqual(len(body), 400)
        number = store.define(body)
        # 400 + 3 is too long; 400 stays 400; then too long again; then one shorter.
        self.assertEqual(Inline()(store, number, body), ops(head + "call#0 here drop call#0 exit"))

    def test_many_calls_up_to_the_bound(self):
        # Each call makes the body longer by three, or by one shorter.
        store = store_of("here drop here drop exit", "exit")
        body = ops("call#0 " * 100 + "exit")
        self.assertEqual(Inline()(store, store.define(body), body), ops("here drop " * 198 + "call#0 exit"))
        body = ops("call#0 " * 100 + "call#1 call#0 exit")
        self.assertEqual(Inline()(store, store.define(body), body), ops("here drop " * 198 + "call#0 call#0 exit"))

    def test_bodies_that_are_too_long_ahead(self):
        store = store_of("exit")
        for length, fits in ((401, True), (402, False)):
            body = ops("here drop " * 199 + "call#0 " * (length - 399) + "exit")
            self.assertEqual(len(body), length)
            told = Inline()(store, store.define(body), body)
            self.assertEqual(len(told), 399 if fits else 402)

    def test_made_words_and_quotes(self):
        from wordmint.session import Session
        session = Session(16)
        session.read(["create c 5 ,", ": w c @ ;", "create k ' @ behave", ": v k [: 1 ;] drop ;", "create x ' exit behave",
                      ": u x ;", ": q [: 2 ;] run 0 1 ;"])
        system = session.system
        for name, text in (("w", "data#2 @ exit"), ("v", None), ("u", None)):
            number = system.number_of(name)
            told = Inline()(system, number, system[number].body)
            if text is not None:
                self.assertEqual(told, ops(text))
        number = system.number_of("v")
        self.assertEqual(Inline()(system, number, system[number].body)[:2], ops("data#4 @"))
        number = system.number_of("u")
        self.assertEqual(Inline()(system, number, system[number].body), system[number].body)
        quote = system.number_of("q") - 1
        self.assertEqual(system[quote].kind, "quote")
        number = system.define((("call", quote), ("exit", 0)))
        self.assertEqual(Inline()(system, number, system[number].body), ops("lit#2 exit"))


class Folding(Base):
    one = Fold()

    def test_two_literals_and_an_act(self):
        for op, result in (("+", 9), ("-", 5), ("*", 14), ("/", 3), ("mod", 1), ("and", 2), ("or", 7), ("xor", 5),
                           ("=", 0), ("<", 0), ("u<", 0)):
            self.becomes(f"lit#7 lit#2 {op} exit", f"lit#{result} exit")
        self.becomes("lit#1 lit#2 lit#3 * + exit", "lit#7 exit")
        self.becomes("lit#1 lit#2 + lit#3 * exit", "lit#9 exit")

    def test_acts_that_fail(self):
        self.stays("lit#7 lit#0 / exit")
        self.stays("lit#7 lit#0 mod exit")
        self.becomes("lit#7 lit#0 lit#1 + / exit", "lit#7 exit")

    def test_acts_that_are_none_of_these(self):
        self.stays("lit#7 lit#2 ! exit")
        self.stays("lit#7 lit#2 swap exit")
        self.stays("lit#7 data#2 + exit")
        self.stays("token#0 lit#2 = exit", "exit")
        self.stays("lit#7 @ exit")
        self.stays("here lit#2 + exit")

    def test_widths(self):
        for width in (16, 24, 32):
            top = (1 << (width - 1)) - 1
            self.becomes(f"lit#{top} lit#1 + exit", f"lit#{-top - 1} exit", width=width)
            self.becomes(f"lit#{-top - 1} lit#-1 / exit", f"lit#{-top - 1} exit", width=width)
            self.becomes(f"lit#{-top - 1} invert exit", f"lit#{top} exit", width=width)
            self.becomes(f"lit#{-top - 1} lit#{top} u< exit", "lit#0 exit", width=width)
            self.becomes(f"lit#{top} lit#{top} * exit", "lit#1 exit", width=width)

    def test_one_literal_and_an_act(self):
        self.becomes("lit#5 invert exit", "lit#-6 exit")
        self.becomes("lit#5 0= exit", "lit#0 exit")
        self.becomes("lit#0 0= 0= 0= exit", "lit#-1 exit")
        self.stays("data#0 0= exit")

    def test_drops(self):
        for op in ("lit#5", "data#2", "token#0"):
            self.becomes(f"{op} drop exit", "exit", "exit")
        self.becomes("dup drop exit", "exit")
        self.becomes("over drop exit", "exit")
        self.becomes(">r r@ drop r> exit", ">r r> exit")
        self.becomes("locals#1 local#0 drop exit", "locals#1 exit")
        for op in ("here", "cell", "ask", "swap", "+", "@"):
            self.stays(f"{op} drop exit")
        self.stays(">r r> drop exit")
        self.becomes("lit#1 lit#2 lit#3 drop drop drop exit", "exit")

    def test_swaps(self):
        self.becomes("swap swap exit", "exit")
        self.becomes("swap swap swap exit", "swap exit")
        self.stays("swap dup swap exit")

    def test_unlesses(self):
        self.becomes("lit#0 unless#4 here drop exit", "goto#3 here drop exit")
        self.becomes("lit#5 unless#4 here drop exit", "here drop exit")
        self.stays("data#0 unless#3 exit exit")

    def test_the_row_stays(self):
        # Behind the rule there would be no way to an exit.
        self.stays("lit#0 unless#0 exit")
        self.stays("lit#1 unless#3 goto#2 exit")
        # There is another way.
        self.becomes("ask unless#3 exit lit#0 unless#3 exit", "ask unless#3 exit goto#3 exit")
        # A body without a row may lose more ways.
        self.becomes("lit#0 unless#0 goto#0", "goto#0 goto#0")
        self.becomes("lit#1 unless#0 goto#0", "goto#0")
        # The second of two may no longer be changed.
        self.becomes("lit#0 unless#5 ask unless#9 exit lit#1 unless#0 goto#8 goto#7 exit",
                     "lit#0 unless#5 ask unless#7 exit goto#6 goto#5 exit")

    def test_the_row_that_is_left_stays(self):
        # The first unless may lose the way that the least row goes; then the second one may not.
        self.becomes("lit#0 unless#3 exit lit#0 unless#6 exit goto#6", "goto#2 exit lit#0 unless#5 exit goto#5")
        self.becomes("lit#1 unless#6 lit#1 unless#5 exit goto#5 exit", "exit goto#1 exit")

    def test_words_without_a_row_on_the_way(self):
        self.becomes("lit#0 unless#3 exit call#0 exit", "lit#0 unless#3 exit call#0 exit", "goto#0")
        self.becomes("lit#0 unless#3 exit call#0 exit", "goto#2 exit call#0 exit", "ask throw exit")

    def test_throws(self):
        self.becomes("lit#0 throw exit", "exit")
        self.stays("lit#1 throw exit")
        self.stays("lit#0 lit#1 throw exit")

    def test_landings(self):
        for text in ("lit#1 lit#2 + here unless#1 exit", "lit#1 lit#2 + here unless#2 exit", "lit#1 0= here unless#1 exit",
                     "lit#1 drop here unless#1 exit", "swap swap here unless#1 exit", "lit#0 throw here unless#1 exit",
                     "lit#0 unless#4 here unless#1 exit", "lit#1 unless#1 exit"):
            store = Store(16)
            number = store.define(ops(text))
            self.assertEqual(Fold()(store, number, ops(text)), ops(text))

    def test_a_landing_at_the_first(self):
        self.becomes("here drop lit#1 lit#2 + drop here unless#2 exit", "here drop here unless#2 exit")
        self.becomes("here drop lit#1 lit#2 + here unless#2 drop exit", "here drop lit#3 here unless#2 drop exit")
        self.becomes("here unless#3 ask lit#5 drop exit", "here unless#3 ask exit")
        self.becomes("here unless#4 ask drop swap swap swap swap exit", "here unless#4 ask drop exit")

    def test_a_landing_that_goes_away(self):
        # The unless that is dropped was what led to the second instruction of an earlier place.
        self.becomes("swap swap lit#5 unless#1 exit", "exit")
        self.becomes("lit#1 lit#2 + lit#5 unless#2 exit", "lit#3 exit")
        self.becomes("here drop here lit#3 drop lit#5 unless#4 drop exit", "here drop here drop exit")
        self.stays("swap swap ask unless#1 exit")

    def test_landings_that_stay(self):
        # The goto that an unless became leads where that one led; other unlesses lead there, too.
        self.becomes("lit#0 unless#4 exit dup drop exit", "goto#3 exit dup drop exit")
        self.becomes("swap swap lit#5 unless#1 ask unless#1 exit", "swap swap ask unless#1 exit")
        self.becomes("lit#1 drop swap swap ask unless#3 exit", "swap swap ask unless#1 exit")
        self.becomes("lit#1 drop lit#5 throw swap swap ask unless#0 exit", "lit#5 throw ask unless#0 exit")
        self.becomes("lit#2 drop dup drop ask unless#3 lit#4 drop exit", "dup drop ask unless#1 exit")

    def test_a_new_landing(self):
        # A goto to what was dropped leads to the drop, which may not be taken with what stands ahead of it then.
        self.becomes("here unless#4 ask dup swap swap drop exit", "here unless#4 ask dup drop exit")
        self.becomes("here unless#3 dup lit#1 drop drop exit", "here unless#3 dup drop exit")

    def test_which_comes_first(self):
        self.becomes("lit#1 lit#2 lit#0 0= drop drop drop exit", "exit")
        self.becomes("lit#0 unless#2 lit#0 unless#4 exit", "goto#1 goto#2 exit")
        # The first place decides: the literals ahead are folded before the row could forbid it.
        self.becomes("lit#0 unless#4 lit#0 unless#0 ask unless#0 exit", "goto#2 goto#0 ask unless#0 exit")

    def test_a_row_that_is_too_long_is_none(self):
        # 1000 answers are a row, 1001 are none; so the way over the throws cannot be the only one.
        for count, fits in ((1000, True), (1001, False)):
            body = ops("lit#0 unless#3 exit " + "ask throw " * count + "exit")
            store = Store(16)
            number = store.define(body)
            told = Fold()(store, number, body)
            self.assertEqual(told[0], ("goto", 2) if fits else ("lit", 0), count)

    def test_a_row_that_becomes_short_enough(self):
        # The throws that are dropped behind it make the row short enough for the first unless.
        body = ops("lit#0 unless#3 exit " + "ask throw " * 999 + "lit#0 throw " * 2 + "exit")
        store = Store(16)
        number = store.define(body)
        self.assertEqual(Fold()(store, number, body), ops("goto#2 exit " + "ask throw " * 999 + "exit"))

    def test_random_bodies(self):
        luck = random.Random(11)
        for turn in range(60):
            store = drawn.drawn_store(luck, luck.choice((16, 24, 32))) if turn % 2 else reference.some_store(luck)
            for number, word in enumerate(store):
                told = Fold()(store, number, word.body)
                self.assertEqual(told, plain_passes.fold(store.width, store.words, word.body), word.body)


class Threading(Base):
    one = Thread()

    def test_chains(self):
        self.becomes("here unless#4 ask goto#5 goto#5 here drop drop exit",
                     "here unless#3 ask here drop drop exit")
        self.becomes("goto#2 here goto#4 here here exit", "goto#4 here goto#4 here here exit")

    def test_gotos_that_go_round(self):
        self.stays("here unless#2 goto#2")
        self.stays("here unless#4 here goto#2 goto#6 exit goto#4")
        self.becomes("goto#1 goto#2 goto#0", "goto#0")
        self.stays("here unless#4 goto#5 exit goto#6 goto#4 goto#5")

    def test_gotos_to_an_exit(self):
        self.becomes("here unless#3 goto#5 here drop exit", "here unless#3 exit here drop exit")
        self.becomes("goto#2 here goto#4 here exit", "exit here exit here exit")
        self.stays("here unless#2 exit")
        self.stays("here goto#3 here jump#0", "exit")

    def test_a_goto_to_an_exit_behind_it_becomes_exit(self):
        self.becomes("goto#1 exit", "exit exit")

    def test_idle_gotos(self):
        self.becomes("goto#1 here exit", "here exit")
        self.becomes("goto#2 goto#2 here exit", "here exit")
        self.becomes("here unless#3 goto#3 goto#4 dup exit", "here unless#2 dup exit")
        self.becomes("here goto#2 here unless#1 exit", "here here unless#1 exit")
        self.stays("goto#2 here here exit")

    def test_a_goto_behind_gotos_that_are_dropped(self):
        self.becomes("goto#3 goto#2 goto#3 here exit", "here exit")
        self.becomes("here unless#2 goto#5 goto#4 goto#5 dup here exit", "here unless#2 dup here exit")

    def test_random_bodies(self):
        luck = random.Random(12)
        for _ in range(400):
            length = luck.randint(1, 9)
            body = [luck.choice((("goto", luck.randrange(length)), ("goto", luck.randrange(length)), ("exit", 0), ("here", 0),
                                 ("unless", luck.randrange(length)))) for _ in range(length - 1)]
            body = tuple(body + [luck.choice((("exit", 0), ("goto", luck.randrange(length))))])
            store = Store(16)
            store.define(body)
            for one, plain in ((Thread(), plain_passes.thread), (Trim(), plain_passes.trim)):
                self.assertEqual(one(store, 0, body), plain(body), body)


class Trimming(Base):
    one = Trim()

    def test_what_no_way_leads_to(self):
        self.becomes("goto#3 here drop exit", "goto#1 exit")
        self.becomes("exit here drop exit", "exit")
        self.becomes("here unless#4 exit here exit", "here unless#3 exit exit")
        self.becomes("jump#0 exit", "jump#0", "exit")
        self.becomes("goto#2 unless#0 exit", "goto#1 exit")
        self.becomes("here drop goto#5 goto#4 goto#3 goto#0", "here drop goto#3 goto#0")

    def test_every_call_and_every_recurse_returns(self):
        self.stays("call#0 here exit", "goto#0")
        self.stays("call#0 here exit", "perform exit")
        self.stays("recurse here drop exit", declared=(0, 0))
        self.stays("perform exit")
        self.stays("lit#5 throw here exit")

    def test_a_literal_does_not_count(self):
        self.stays("lit#0 unless#4 here drop exit")


class Tailing(Base):
    one = Tail()

    def test_calls(self):
        self.becomes("call#0 exit", "jump#0 exit", "exit")
        self.becomes("here call#0 exit", "here jump#0 exit", "ask throw exit")
        self.stays("call#0 here exit", "exit")
        self.stays("call#0 exit", "goto#0")
        self.stays("call#0 exit", "perform exit")
        self.stays("call#0 goto#2 exit", "exit")
        self.becomes("here unless#4 call#0 exit call#0 exit", "here unless#4 jump#0 exit jump#0 exit", "exit")

    def test_deferred_words(self):
        store = Store(16)
        store.defer((1, 1))
        body = ops("call#0 exit")
        self.assertEqual(Tail()(store, store.define(body), body), ops("jump#0 exit"))

    def test_places_that_the_walk_does_not_come_to(self):
        self.becomes("goto#3 call#0 exit call#0 exit", "goto#3 call#0 exit jump#0 exit", "exit")
        self.stays("call#0 call#1 exit", "goto#0", "exit")

    def test_places_behind_a_refusal(self):
        # The walk ends at the refusal; from there on no place is come to.
        self.stays("r> call#0 exit", "exit")

    def test_recursion(self):
        self.becomes("dup unless#4 recurse exit exit", "dup unless#4 goto#0 exit exit", declared=(1, 1))
        self.stays("recurse exit", declared=(0, 0))
        self.stays("recurse exit here drop exit", declared=(0, 0))
        self.stays("dup unless#5 recurse here exit exit", declared=(1, 1))

    def test_the_effect_is_the_declared_one(self):
        # Walked with the declared effect of the word that is passed.
        store = Store(16)
        number = store.define(ops("dup drop exit"), declared=(1, 1))
        body = ops("dup unless#4 recurse exit exit")
        self.assertEqual(Tail()(store, number, body), ops("dup unless#4 goto#0 exit exit"))


class Settling(Case):
    def test_at_once(self):
        store = store_of("here exit")
        self.assertEqual(settle(Fold(), store, 0, ops("here exit")), ops("here exit"))

    def test_late(self):
        store = Store(16)
        store.define(ops("here drop exit"))
        for number in range(1, 300):
            store.define(ops(f"call#{number - 1} exit"))
        self.assertEqual(settle(Inline(), store, 299, store[299].body), ops("here drop exit"))
        self.assertEqual(Inline()(store, 299, store[299].body), ops("call#297 exit"))

    def test_at_most_four_hundred_times(self):
        class Turns(Pass):
            count = 0

            def __call__(self, store, number, body):
                self.count += 1
                return body[1:] + body[:1]

        one = Turns()
        body = ops("lit#1 lit#2 exit")
        self.assertEqual(settle(one, store_of("exit"), 0, body), ops("lit#2 exit lit#1"))
        self.assertEqual(one.count, 400)

    def test_settled_bodies_stay(self):
        luck = random.Random(13)
        one = Inline() + Fold() + Thread() + Trim()
        for _ in range(30):
            store = drawn.drawn_store(luck)
            for number, word in enumerate(store):
                if word.kind == "plain" and word.effect is not None:
                    body = settle(one, store, number, word.body)
                    self.assertLessEqual(len(body), 400)
                    self.assertEqual(settle(one, store, number, body), body)

    def test_long_bodies(self):
        store = store_of("exit")
        for text in ("lit#1 drop " * 3499 + "exit", "lit#1 " * 3499 + "+ " * 3498 + "exit", "call#0 " * 6999 + "exit",
                     "swap swap " * 3499 + "exit", "lit#0 throw " * 3499 + "exit"):
            number = store.define(ops(text))
            for one in ALL:
                one()(store, number, ops(text))
        chain = tuple(("goto", place + 1) for place in range(6999)) + (("exit", 0),)
        self.assertEqual((Thread() + Trim())(store, 1, chain), ops("exit"))


if __name__ == "__main__":
    import unittest
    unittest.main()
