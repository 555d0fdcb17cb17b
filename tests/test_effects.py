"""The checker: the walk, the refusals and their order, the summary."""

import random
import time
import unittest

from tests import drawn, reference
from tests.helpers import Case, ops, store_of
from wordmint.effects import Refusal, Summary, check, standings
from wordmint.stores import Store

NO_WORDS = ()


class Checks(Case):
    def summed(self, told, text, declared=None, words=NO_WORDS):
        """The word is let by with (ins, outs, rise, frames, row)."""
        verdict = check(list(words), ops(text), declared)
        self.assertIsInstance(verdict, Summary, vars(verdict))
        self.assertEqual((verdict.ins, verdict.outs, verdict.rise, verdict.frames, verdict.row), told)
        self.assertEqual(verdict.effect, told[:2])
        return verdict

    def refused(self, told, text, declared=None, words=NO_WORDS):
        """The word is refused with (kind, place, row, other, number, need)."""
        verdict = check(list(words), ops(text), declared)
        self.assertIsInstance(verdict, Refusal, vars(verdict))
        kept = (verdict.kind, verdict.place, verdict.row, verdict.other, verdict.number, verdict.need)
        self.assertEqual(kept, told)
        return verdict


class Summaries(Checks):
    def test_straight_words(self):
        self.summed((0, 0, 0, 1, ()), "exit")
        self.summed((1, 2, 1, 1, ()), "dup exit")
        self.summed((1, 1, 1, 1, ()), "dup * exit")
        self.summed((2, 0, 0, 1, ()), "drop drop exit")
        self.summed((3, 3, 0, 1, ()), "rot exit")
        self.summed((2, 3, 1, 1, ()), "over exit")
        self.summed((0, 2, 3, 1, ()), "lit#1 lit#2 lit#3 drop exit")
        self.summed((4, 2, 0, 1, ()), "locals#4 local#0 local#3 exit")
        self.summed((1, 1, 0, 1, ()), ">r r@ drop r> exit")

    def test_dips_below_the_beginning(self):
        self.summed((2, 2, 0, 1, ()), "drop drop lit#1 lit#2 exit")
        self.summed((1, 0, 1, 1, ()), "lit#1 drop drop exit")

    def test_answers(self):
        self.summed((1, 0, 0, 1, (0,)), "throw exit")
        self.summed((1, 0, 0, 1, (0,)), "unless#1 exit")
        self.summed((1, 0, 0, 1, (1,)), "unless#2 exit goto#2")
        self.summed((2, 0, 0, 1, (0, 0)), "throw throw exit")
        self.summed((2, 0, 0, 1, (1, 0)), "unless#3 throw exit goto#3")

    def test_run_and_catch(self):
        self.summed((3, 1, None, None, ()), "run#2,1 exit")
        self.summed((3, 3, None, None, ()), "catch#2 exit")
        self.summed((1, 0, None, None, ()), "run#0,0 exit")

    def test_building_acts(self):
        self.summed((0, 2, 2, 1, ()), "pad, exit")
        self.summed((1, 0, 0, 1, ()), "behave exit")

    def test_what_is_never_come_to_does_not_count(self):
        self.summed((0, 0, 0, 1, ()), "exit run#1,1 recurse r> drop lit#1 lit#1 exit")
        self.summed((0, 1, 1, 1, ()), "goto#3 perform catch#0 lit#5 exit")
        store = store_of("perform exit")
        self.summed((0, 0, 0, 1, ()), "goto#2 call#0 exit", words=store)

    def test_words_that_never_return(self):
        self.summed((0, 0, 0, 1, None), "goto#0")
        self.summed((1, 1, 1, 1, None), "dup drop goto#0")
        self.summed((2, 5, 1, 1, None), "lit#1 drop goto#0", (2, 5))
        store = store_of("goto#0")
        self.summed((0, 0, 0, 2, None), "call#0 drop drop r> exit", words=store)
        self.summed((0, 0, 1, 1, None), "lit#5 jump#0", words=store)
        self.summed((1, 0, 0, 1, (0,)), "unless#2 jump#0 exit", words=store)

    def test_declared_effects(self):
        self.summed((2, 3, 1, 1, ()), "dup exit", (2, 3))
        self.summed((8, 8, 0, 1, ()), "exit", (8, 8))

    def test_calls(self):
        store = store_of("lit#1 lit#2 drop exit", "lit#0 call#0 exit", "dup drop jump#1")
        self.assertEqual(store[0].verdict, Summary(0, 1, 2, 1, ()))
        self.assertEqual(store[1].verdict, Summary(0, 2, 3, 2, ()))
        self.assertEqual(store[2].verdict, Summary(1, 3, 3, 2, ()))
        self.summed((1, 5, 5, 3, ()), "call#2 call#1 exit", words=store)
        self.summed((1, 4, 4, 3, ()), "call#2 call#0 exit", words=store)
        self.summed((0, 1, 2, 1, ()), "jump#0", words=store)

    def test_a_jump_alone_needs_the_frames_of_its_word(self):
        store = store_of("exit", "call#0 exit", "call#1 exit")
        self.summed((0, 0, 0, 3, ()), "jump#2", words=store)
        self.summed((0, 0, 0, 4, ()), "call#2 jump#2", words=store)

    def test_rows_of_called_words(self):
        store = store_of("unless#2 exit goto#2", "throw exit")
        self.summed((3, 0, 0, 2, (1, 0, 1)), "call#0 call#1 call#0 exit", words=store)
        self.summed((2, 0, 0, 2, (1, 0)), "call#0 jump#1", words=store)

    def test_deferred_words(self):
        store = Store(16)
        store.defer((1, 2))
        self.assertEqual(store[0].verdict, Summary(1, 2, None, None, ()))
        self.summed((1, 2, None, None, ()), "call#0 exit", words=store)
        self.summed((1, 2, None, None, ()), "jump#0", words=store)
        self.summed((0, 0, 1, 1, ()), "token#0 drop exit", words=store)

    def test_a_word_that_calls_itself(self):
        self.summed((1, 1, None, None, (0,)), "dup unless#5 lit#1 - recurse exit", (1, 1))
        self.summed((1, 0, None, None, (1,)), "unless#2 exit lit#0 recurse exit", (1, 0))
        self.summed((0, 1, None, None, None), "recurse drop drop drop exit", (0, 1))
        self.summed((0, 0, None, None, None), "lit#0 unless#3 recurse goto#2", (0, 0))

    def test_equality(self):
        self.assertEqual(Summary(1, 2, 3, 4, (0,)), Summary(1, 2, 3, 4, (0,)))
        for other in ((0, 2, 3, 4, (0,)), (1, 0, 3, 4, (0,)), (1, 2, 0, 4, (0,)), (1, 2, 3, 0, (0,)), (1, 2, 3, 4, ())):
            self.assertNotEqual(Summary(1, 2, 3, 4, (0,)), Summary(*other))
        told = ("ragged", 1, (1,), (0,), None, 2)
        self.assertEqual(Refusal(*told), Refusal(*told))
        for at, thing in enumerate(("own", 2, (), None, 5, 0)):
            self.assertNotEqual(Refusal(*told), Refusal(*told[:at], thing, *told[at + 1:]))
        self.assertNotEqual(Summary(1, 2, 3, 4, ()), Refusal(*told))
        self.assertNotEqual(Summary(1, 2, 3, 4, ()), None)


class Refusals(Checks):
    def test_unsaid(self):
        self.refused(("unsaid", 1, (), None, None, 1), "dup recurse exit")
        self.refused(("unsaid", 2, (1,), None, None, 0), "lit#0 unless#3 recurse exit")

    def test_free(self):
        self.refused(("free", 1, (), None, None, 1), "drop perform exit")
        self.refused(("free", 1, (), None, None, 2), "drop perform exit", (2, 0))
        self.refused(("free", 0, (), None, None, 0), "perform exit", (0, 0))
        self.refused(("free", 0, (), None, None, 0), "forget exit")

    def test_callee(self):
        store = store_of("exit", "perform exit")
        self.refused(("callee", 2, (), None, 1, 2), "drop drop call#1 exit", words=store)
        self.refused(("callee", 1, (), None, 1, 1), "drop jump#1", words=store)
        self.refused(("callee", 1, (), None, 1, 5), "drop jump#1", (5, 5), words=store)
        self.refused(("callee", 2, (1,), None, 1, 0), "lit#0 unless#3 call#1 exit", words=store)

    def test_under(self):
        store = store_of("drop drop exit")
        self.refused(("under", 1, (), None, None, 1), "drop drop exit", (1, 0))
        self.refused(("under", 0, (), None, None, 0), "dup exit", (0, 1))
        self.refused(("under", 0, (), None, None, 1), "call#0 exit", (1, 0), words=store)
        self.refused(("under", 0, (), None, None, 1), "jump#0", (1, 0), words=store)
        self.refused(("under", 1, (), None, None, 1), "drop recurse exit", (1, 0))
        self.refused(("under", 3, (0,), None, None, 1), "unless#3 exit exit run#0,0 exit", (1, 0))
        self.refused(("under", 0, (), None, None, 2), "catch#2 exit", (2, 2))
        self.refused(("under", 0, (), None, None, 2), "locals#3 exit", (2, 0))

    def test_own(self):
        self.refused(("own", 0, (), None, None, 0), "r> exit")
        self.refused(("own", 0, (), None, None, 0), "r@ exit")
        self.refused(("own", 2, (), None, None, 1), ">r r> r> exit")
        self.refused(("own", 2, (), None, None, 1), ">r r> r@ exit", (1, 2))

    def test_left(self):
        store = store_of("exit", "drop exit")
        self.refused(("left", 1, (), None, None, 1), ">r exit")
        self.refused(("left", 1, (), None, None, 3), ">r exit", (3, 2))
        self.refused(("left", 1, (), None, None, 1), ">r jump#0", words=store)

    def test_a_jump_at_the_end_counts_for_the_need(self):
        store = store_of("drop exit")
        self.refused(("left", 1, (), None, None, 2), ">r jump#0", words=store)

    def test_out(self):
        store = store_of("dup exit", "throw lit#1 exit")
        self.refused(("out", 1, (), None, None, 1), "dup exit", (1, 1))
        self.refused(("out", 1, (1,), None, None, 2), "unless#3 exit exit drop exit", (2, 0))
        self.refused(("out", 0, (), None, None, 1), "jump#0", (1, 1), words=store)
        self.refused(("out", 0, (0,), None, None, 1), "jump#1", (1, 0), words=store)

    def test_ragged_places(self):
        self.refused(("ragged", 2, (1,), (0,), None, 1), "unless#2 lit#1 exit")
        self.refused(("ragged", 0, (), (), None, 0), "lit#1 goto#0")
        self.refused(("ragged", 0, (), (), None, 1), ">r goto#0")
        self.refused(("ragged", 4, (1,), (0,), None, 2), "lit#0 unless#4 drop drop exit")

    def test_ragged_own_items(self):
        self.refused(("ragged", 5, (1,), (0,), None, 1), ">r lit#0 unless#5 lit#0 >r here goto#8 exit goto#8")

    def test_ragged_exits(self):
        store = store_of("dup exit")
        self.refused(("ragged", 1, (1,), (0,), None, 1), "unless#2 exit lit#1 exit")
        self.refused(("ragged", 1, (1,), (0,), None, 2), "unless#2 jump#0 exit", words=store)
        self.refused(("ragged", 1, (1,), (0,), None, 2), "unless#3 exit exit jump#0", words=store)

    def test_need_counts_both_ways(self):
        self.refused(("ragged", 5, (1,), (0,), None, 3), "unless#3 lit#1 goto#5 drop drop drop exit")
        self.refused(("ragged", 7, (1,), (0,), None, 4), "unless#5 drop drop drop goto#7 lit#1 goto#7 exit")


class Orders(Checks):
    def test_the_lesser_row_counts(self):
        self.refused(("own", 3, (0,), None, None, 1), "unless#3 perform exit r> exit")
        self.refused(("free", 1, (1,), None, None, 1), "unless#3 perform exit lit#1 unless#3 r> exit")

    def test_shorter_rows_are_lesser(self):
        self.refused(("own", 5, (1,), None, None, 1), "unless#2 goto#5 throw r> exit r> exit")

    def test_kinds_at_one_place(self):
        store = store_of("drop exit", "perform exit")
        self.refused(("under", 1, (), None, None, 1), ">r jump#0", (1, 0), words=store)
        self.refused(("left", 1, (), None, None, 1), ">r exit", (1, 1))
        self.refused(("callee", 1, (), None, 1, 1), ">r jump#1", (1, 0), words=store)
        self.refused(("unsaid", 1, (), None, None, 1), ">r recurse exit")

    def test_kinds_ahead_of_ragged_at_a_place_come_to_again(self):
        self.refused(("under", 3, (1,), None, None, 1), "lit#0 unless#3 drop drop exit", (1, 0))
        self.refused(("ragged", 3, (1,), (0,), None, 2), "lit#0 unless#3 drop drop exit", (2, 1))
        self.refused(("own", 5, (1,), None, None, 1), ">r lit#0 unless#5 r> drop r> exit")
        self.refused(("left", 4, (1,), None, None, 0), "lit#0 unless#4 lit#0 >r exit")
        self.refused(("out", 3, (1,), None, None, 0), "lit#0 unless#3 lit#0 exit", (0, 0))
        self.refused(("ragged", 3, (1,), (0,), None, 0), "lit#0 unless#3 lit#0 exit")

    def test_at_a_jump_that_is_come_to_again(self):
        store = store_of("drop exit", "exit")
        self.refused(("under", 3, (1,), None, None, 1), "lit#0 unless#3 drop jump#0", (1, 0), words=store)
        self.refused(("ragged", 3, (1,), (0,), None, 2), "lit#0 unless#3 drop jump#0", (2, 1), words=store)
        self.refused(("ragged", 3, (1,), (0,), None, 2), "lit#0 unless#3 drop jump#0", words=store)
        self.refused(("left", 4, (1,), None, None, 0), "lit#0 unless#4 lit#0 >r jump#1", words=store)

    def test_places_go_ahead_of_exits(self):
        self.refused(("ragged", 5, (1, 1), (1, 0), None, 0),
                     "lit#0 unless#7 lit#0 unless#5 lit#0 exit exit exit")

    def test_own_items_at_a_jump_that_others_come_to(self):
        store = store_of("exit")
        self.refused(("left", 3, (1,), None, None, 2), "unless#4 >r goto#3 jump#0 exit", words=store)

    def test_out_behind_a_jump_waits_for_lesser_rows(self):
        store = store_of("throw exit")
        # The exit behind the jump has the row (0, 0); the free word is met with the row (1,).
        self.refused(("free", 3, (1,), None, None, 3), "unless#2 goto#3 jump#0 perform exit", (3, 0), words=store)

    def test_exits_behind_jumps_in_order(self):
        store = store_of("throw exit")
        # The plain exit comes first by its row (1,), though the jump is come to by the row (0,).
        self.refused(("ragged", 2, (0, 0), (1,), None, 2), "unless#2 exit jump#0", words=store)


class Bounds(Checks):
    def test_two_hundred_items_below(self):
        self.summed((200, 0, 0, 1, ()), "drop " * 200 + "exit")
        self.refused(("long", 200, (), None, None, 200), "drop " * 201 + "exit")

    def test_two_hundred_items_below_by_calls(self):
        store = store_of("drop " * 200 + "exit")
        self.summed((200, 0, 0, 2, ()), "call#0 exit", words=store)
        self.summed((200, 1, 1, 2, ()), "lit#1 drop call#0 lit#1 exit", words=store)
        self.refused(("long", 1, (), None, None, 1), "drop call#0 exit", words=store)
        self.refused(("long", 1, (), None, None, 201), "drop jump#0", words=store)
        self.refused(("under", 1, (), None, None, 8), "drop call#0 exit", (8, 8), words=store)

    def test_a_thousand_answers(self):
        self.summed((1, 0, 0, 1, (0,)), "throw exit")
        verdict = self.summed((0, 0, 1, 1, (0,) * 1000), "lit#0 throw " * 1000 + "exit")
        self.assertEqual(len(verdict.row), 1000)
        self.refused(("long", 2001, (0,) * 1000, None, None, 0), "lit#0 throw " * 1001 + "exit")
        self.refused(("long", 2001, (0,) * 1000, None, None, 0), "lit#0 throw " * 1000 + "lit#0 unless#0 exit")

    def test_a_thousand_answers_by_calls(self):
        store = store_of("lit#0 throw " * 500 + "exit", "lit#0 throw exit")
        self.summed((0, 0, 1, 2, (0,) * 1000), "call#0 call#0 exit", words=store)
        self.summed((0, 0, 1, 2, (0,) * 1000), "call#0 jump#0", words=store)
        self.refused(("long", 2, (0,) * 1000, None, None, 0), "call#0 call#0 call#1 exit", words=store)
        self.refused(("long", 2, (0,) * 1000, None, None, 0), "call#0 call#0 jump#1", words=store)
        self.refused(("long", 2, (0,) * 501, None, None, 0), "call#0 call#1 call#0 exit", words=store)

    def test_recurse_has_the_answers_of_the_own_row(self):
        text = "lit#0 unless#3 recurse " + "lit#0 throw " * 600 + "exit"
        # Behind the recurse the way comes to place 3 with 602 answers, where the way of the answer 0 came before.
        verdict = check([], ops(text), (0, 0))
        self.assertIsInstance(verdict, Summary)
        self.assertEqual(verdict.row, (0,) * 601)

    def test_recurse_may_make_a_row_too_long(self):
        text = "lit#0 unless#5 " + "recurse recurse exit " + "lit#0 throw " * 600 + "exit"
        self.refused(("long", 3, (1,) + (0,) * 601, None, None, 0), text, (0, 0))

    def test_an_own_row_of_more_than_a_thousand_answers_is_none(self):
        text = "lit#0 unless#4 recurse exit " + "lit#0 throw " * 999 + "exit"
        self.refused(("long", 2, (1,), None, None, 0), text, (0, 0))
        # Here the least row would have 1001 answers: the recurse ends its way, and the other way is too long.
        text = "lit#0 unless#4 recurse exit " + "lit#0 throw " * 1000 + "exit"
        self.refused(("long", 4 + 1999, (0,) * 1000, None, None, 0), text, (0, 0))

    def test_long_is_looked_at_only_at_first(self):
        # The loop leads back to its start by a row of 1000 answers, which is not too long.
        text = "lit#0 throw " * 1000 + "goto#0"
        self.summed((0, 0, 1, 1, None), text)

    def test_seven_thousand_instructions_in_time(self):
        before = time.time()
        text = "lit#0 throw " * 1000 + "dup drop " * 2499 + "exit"
        body = ops(text)
        self.assertEqual(len(body), 6999)
        self.assertEqual(check([], body).effect, (1, 1))
        told = standings([], body)
        self.assertEqual((len(told), len(told[-1][3])), (6999, 1000))
        branches = []
        for at in range(999):
            branches += [("lit", 0), ("unless", 2 * at + 2)]
        body = tuple(branches) + (("lit", 0), ("drop", 0)) * 2500 + (("exit", 0),)
        self.assertEqual(check([], body).row, (0,) * 999)
        self.assertLess(time.time() - before, 30)

    def test_many_calls_of_words_with_long_rows(self):
        before = time.time()
        store = store_of("lit#0 throw " * 1000 + "exit")
        body = (("lit", 0), ("unless", 3), ("call", 0)) * 2000 + (("exit", 0),)
        self.assertEqual(check(store.words, body).kind, "long")
        store = store_of("goto#0")
        self.assertEqual(check(store.words, (("call", 0),) * 6999 + (("exit", 0),)), Summary(0, 0, 0, 2, None))
        self.assertLess(time.time() - before, 30)


class Standings(Checks):
    def test_all_places(self):
        self.assertEqual(standings([], ops("dup unless#4 lit#1 drop exit")),
                         [(0, 0, 0, ()), (1, 1, 0, ()), (2, 0, 0, (1,)), (3, 1, 0, (1,)), (4, 0, 0, (0,))])
        self.assertEqual(standings([], ops(">r r> exit dup")[:3]), [(0, 0, 0, ()), (1, -1, 1, ()), (2, 0, 0, ())])

    def test_ahead_of_a_refusal(self):
        self.assertEqual(standings([], ops("drop perform exit")), [(0, 0, 0, ())])
        self.assertEqual(standings([], ops("perform exit")), [])
        self.assertEqual(standings([], ops("unless#2 lit#1 exit")), [(0, 0, 0, ()), (1, -1, 0, (1,)), (2, -1, 0, (0,))])
        # Ways with a greater row than that of the refusal are not looked at.
        self.assertEqual(standings([], ops("unless#3 here exit r> exit")), [(0, 0, 0, ())])

    def test_the_place_of_a_refusal_behind_a_jump(self):
        store = store_of("dup exit", "throw exit")
        self.assertEqual(standings(store.words, ops("jump#0"), (1, 1)), [(0, 0, 0, ())])
        self.assertEqual(standings(store.words, ops("unless#2 exit jump#1")),
                         [(0, 0, 0, ()), (1, -1, 0, (1,)), (2, -1, 0, (0,))])

    def test_a_refused_exit_does_not_count(self):
        self.assertEqual(standings([], ops("unless#2 exit lit#1 exit")),
                         [(0, 0, 0, ()), (2, -1, 0, (0,)), (3, 0, 0, (0,))])

    def test_deferred_words(self):
        store = Store(16)
        store.defer((1, 3))
        word = store[0]
        self.assertEqual(standings([], word.body, word.declared), [(0, 0, 0, ()), (1, 2, 0, ())])

    def test_the_list_belongs_to_the_caller(self):
        body = ops("dup exit")
        told = standings([], body)
        told.clear()
        self.assertEqual(standings([], body), [(0, 0, 0, ()), (1, 1, 0, ())])

    def test_the_words_stay(self):
        store = store_of("throw exit")
        words = list(store.words)
        check(words, ops("call#0 exit"))
        standings(words, ops("call#0 jump#0"))
        self.assertEqual(words, store.words)


class AtRandom(Checks):
    def test_against_the_second_checker(self):
        kinds = {}
        for seed in range(4):
            for store in reference.stores(seed, 800):
                for number, word in enumerate(store):
                    if word.kind == "deferred":
                        continue
                    other = reference.Check(store.words[:number], word.body, word.declared)
                    self.assertEqual(vars(word.verdict), vars(other.verdict), (word.body, word.declared))
                    self.assertEqual(standings(store.words[:number], word.body, word.declared), other.standings())
                    kind = getattr(word.verdict, "kind", "summary")
                    kinds[kind] = kinds.get(kind, 0) + 1
        for kind in ("summary", "unsaid", "free", "callee", "under", "own", "left", "out", "ragged"):
            self.assertGreater(kinds.get(kind, 0), 20, kind)

    def test_bodies_that_go_straight_on(self):
        luck = random.Random(5)
        kinds = {}
        for _ in range(600):
            body = drawn.straight_body(luck, luck.randint(0, 5), luck.randint(0, 6))
            effect = reference.Check([], body, None).verdict.effect
            for declared in (None, effect, (effect[0] + 1, effect[1] + 1), (luck.randint(0, 3), luck.randint(0, 3))):
                if declared is None or max(declared) <= 8:
                    verdict = check([], body, declared)
                    self.assertEqual(vars(verdict), vars(reference.Check([], body, declared).verdict), (body, declared))
                    kind = getattr(verdict, "kind", "summary")
                    kinds[kind] = kinds.get(kind, 0) + 1
        for kind in ("summary", "under", "out"):
            self.assertGreater(kinds.get(kind, 0), 20, kinds)
        self.assertIsInstance(check([], ops("drop " * 200 + "exit")), Summary)
        self.assertEqual(check([], ops("drop " * 201 + "exit")).kind, "long")


if __name__ == "__main__":
    unittest.main()
