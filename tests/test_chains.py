"""Tests of stylefall.chains: promises 5 and 6, and 1 to 4 for these functions."""

import copy
import random
import unittest

from stylefall.chains import chain_at, form, need_chain, same, told_apart, worth
from stylefall.errors import BadBook, BadChain, BadQuestion, BadStream, BadTerminal
from tests.things import (
    Agreeable, Awkward, Given, all_chains, chain_of, deep_in, form_of, full_book, is_chain, odd_things, raised_by,
    random_book, random_stream, some_of, told_book, worth_of)

STREAM = ("33", "38;5;208", "a", "39", "b")
AT_A = (("many", "orange"), ("basic", "yellow"))
AT_B = (("basic", "plain"), ("many", "orange"))
TWELVE = tuple((kind, "v") for kind in "lkjihgfedcba")
NO_NAMES = ("", "abcdefghi", "A", "a1", "1", "a ", " ", "a\n", "-", "\u00e9", "`", "{", None, True, 1, b"a", ("a",))
NO_CHAINS = (
    None, True, 0, "", "ab", b"", [], {}, [("a", "x")], ("a", "x"), ("ax",), (("a",),), (("a", "x", "y"),),
    (["a", "x"],), (("a", "x"), None), (("a", "x"), ()), (("a", "x"), ("a", "x")), (("a", "x"), ("a", "y")),
    (("a", "x"), ("b", "x"), ("a", "x")), TWELVE + (("m", "v"),), (("A", "x"),), (("a", "X"),), Awkward(), Agreeable())


def partings(one, other):
    """All terminals on which two chains have unlike worths, those of fewer kinds first."""
    kinds = sorted(dict(one + other))
    return [terminal for terminal in some_of(kinds) if worth_of(one, terminal) != worth_of(other, terminal)]


class NeedChain(Given):
    def test_good_chains(self):
        for chain in ((), (("a", "x"),), AT_A, AT_B, (("z", "x"), ("a", "x")), (("a", "b"), ("b", "a"), ("c", "c")),
                      (("abcdefgh", "zzzzzzzz"),), (("a", "x"), ("aa", "x"))):
            self.assertIs(need_chain(chain), chain)

    def test_twelve_pairs_and_no_more(self):
        for many in range(13):
            chain = TWELVE[:many]
            self.assertIs(need_chain(chain), chain)
        self.check_refused(BadChain, need_chain, TWELVE + (("m", "v"),))
        self.check_refused(BadChain, need_chain, TWELVE + (("a", "v"),))
        self.check_refused(BadChain, need_chain, TWELVE * 2)
        self.check_refused(BadChain, need_chain, (("a", "x"),) * 100000)

    def test_two_pairs_of_one_kind(self):
        for chain in ((("a", "x"), ("a", "x")), (("a", "x"), ("a", "y")), (("a", "x"), ("b", "y"), ("a", "z")),
                      TWELVE[:11] + (("l", "w"),)):
            self.check_refused(BadChain, need_chain, chain)

    def test_no_tuples(self):
        for thing in ([], [("a", "x")], {}, {"a": "x"}, {("a", "x")}, "", "ax", b"", None, False, 0, iter(AT_A)):
            self.check_refused(BadChain, need_chain, thing)

    def test_no_pairs(self):
        for thing in (["a", "x"], "ax", ("a",), ("a", "x", "y"), (), None, True, 1, {"a": "x"}, ("a", ["x"])):
            self.check_refused(BadChain, need_chain, (thing,))
            self.check_refused(BadChain, need_chain, (("b", "x"), thing))
            self.check_refused(BadChain, need_chain, (thing, ("b", "x")))

    def test_kinds_and_values_that_are_none(self):
        for name in NO_NAMES:
            self.check_refused(BadChain, need_chain, ((name, "x"),))
            self.check_refused(BadChain, need_chain, (("a", name),))
            self.check_refused(BadChain, need_chain, (("a", "x"), (name, "x"), ("b", "x")))
            self.check_refused(BadChain, need_chain, (("a", "x"), ("c", name), ("b", "x")))

    def test_things_of_all_kinds(self):
        told = [0, 0]
        for thing in odd_things() + list(NO_CHAINS):
            for chain in (thing, (thing,), ((thing, "x"),), (("a", thing),), (("a", "x"), thing),
                          (("b", "x"), ("a", thing))):
                told[is_chain(chain)] += 1
                if is_chain(chain):
                    self.assertIs(need_chain(chain), chain)
                else:
                    self.check_refused(BadChain, need_chain, chain)
        self.assertGreater(min(told), 5)

    def test_tuples_deep_in_one_another(self):
        for thing in (deep_in(tuple, "a", 50000), (("a", deep_in(tuple, "x", 50000)),)):
            self.check_refused(BadChain, need_chain, thing)


class Worth(Given):
    def test_the_first_pair_whose_kind_is_known(self):
        chain = (("c", "x"), ("a", "y"), ("b", "z"))
        for terminal, value in (((), None), (("c",), "x"), (("a",), "y"), (("b",), "z"), (("a", "b"), "y"),
                                (("b", "c"), "x"), (("a", "c"), "x"), (("a", "b", "c"), "x"), (("d", "e"), None),
                                (("b", "d"), "z"), (("cc",), None)):
            self.assertEqual(worth(chain, terminal), value)
            self.assertIsNone(worth((), terminal))

    def test_the_example_of_the_document(self):
        for chain, basic, many, both in ((AT_A, "yellow", "orange", "orange"), (AT_B, "plain", "orange", "plain")):
            told = [worth(chain, terminal) for terminal in (("basic",), ("many",), ("basic", "many"))]
            self.assertEqual(told, [basic, many, both])

    def test_as_many_pairs_and_kinds_as_may_be(self):
        chain = tuple((kind, kind * 8) for kind, _ in TWELVE)
        self.assertEqual(worth(chain, tuple("abcdefghijkl")), "llllllll")
        for kind in "abcdefghijkl":
            self.assertEqual(worth(chain, (kind,)), kind * 8)

    def test_bad_chains_then_bad_terminals(self):
        for thing in NO_CHAINS:
            for terminal in (("a",), ["a"], thing):
                self.assertIs(self.check_raised(BadChain, worth, thing, terminal).given, thing)
        for thing in odd_things():
            if not is_chain(thing):
                self.assertIs(self.check_raised(BadChain, worth, thing, None).given, thing)
        for thing in (None, True, 1, "a", ["a"], ("b", "a"), ("a", "a"), ("A",), (1,), tuple("abcdefghijklm"),
                      Awkward(), Agreeable(), (Agreeable(),), 10 ** 5000):
            self.check_refused(BadTerminal, worth, AT_A, thing)
            self.check_refused(BadTerminal, worth, (), thing)


class Forms(Given):
    def test_runs(self):
        for chain, runs in (
                ((), ()),
                ((("a", "x"),), (("x", ("a",)),)),
                ((("b", "x"), ("a", "x")), (("x", ("a", "b")),)),
                ((("b", "x"), ("a", "y")), (("x", ("b",)), ("y", ("a",)))),
                ((("c", "x"), ("b", "y"), ("a", "x")), (("x", ("c",)), ("y", ("b",)), ("x", ("a",)))),
                ((("d", "x"), ("b", "x"), ("c", "y"), ("a", "y"), ("e", "x")),
                 (("x", ("b", "d")), ("y", ("a", "c")), ("x", ("e",)))),
                (TWELVE, (("v", tuple("abcdefghijkl")),)),
                (AT_A, (("orange", ("many",)), ("yellow", ("basic",))))):
            self.assertEqual(form(chain), runs)

    def test_all_chains_of_few_kinds(self):
        for chain in all_chains("abcd", "xy"):
            self.assertEqual(form(chain), form_of(chain))

    def test_all_is_of_tuples(self):
        told = form((("b", "x"), ("a", "x"), ("c", "y")))
        for thing in (told, told[0], told[0][1], told[1], told[1][1]):
            self.assertIs(thing.__class__, tuple)

    def test_bad_chains(self):
        for thing in NO_CHAINS:
            self.check_refused(BadChain, form, thing)
        for thing in odd_things():
            if not is_chain(thing):
                self.check_refused(BadChain, form, thing)


class TwoChains(Given):
    def check(self, one, other):
        apart = partings(one, other)
        self.assertIs(same(one, other), form_of(one) == form_of(other))
        self.assertIs(same(one, other), apart == [])
        told = told_apart(one, other)
        if apart == []:
            self.assertIsNone(told)
        else:
            self.assertIn(told, apart)
            self.assertEqual(len(told), len(apart[0]))
            self.assertNotEqual(worth(one, told), worth(other, told))
        return told if told is None else len(told)

    def test_all_chains_of_three_kinds(self):
        chains = list(all_chains("abc", "xy"))
        told = {}
        for one in chains:
            for other in chains:
                many = self.check(one, other)
                told[many] = told.get(many, 0) + 1
        self.assertEqual(set(told), {None, 1, 2})
        self.assertGreater(min(told.values()), 50)

    def test_random_chains_of_the_same_pairs(self):
        chance = random.Random(5)
        told = {}
        for _ in range(2000):
            one = [(kind, chance.choice("xyz")) for kind in chance.sample("abcdef", chance.randint(0, 6))]
            other = list(one)
            for _ in range(chance.randint(0, 3)):
                place = chance.randrange(max(1, len(other)))
                other[place:place + 2] = other[place:place + 2][::-1]
            many = self.check(tuple(one), tuple(other))
            told[many] = told.get(many, 0) + 1
        self.assertEqual(set(told), {None, 2})
        self.assertGreater(min(told.values()), 200)

    def test_terminals_of_one_kind_and_of_two(self):
        self.assertEqual(told_apart((("a", "x"),), ()), ("a",))
        self.assertEqual(told_apart((), (("a", "x"),)), ("a",))
        self.assertEqual(told_apart((("a", "x"),), (("a", "y"),)), ("a",))
        self.assertEqual(told_apart((("b", "x"), ("a", "y")), (("a", "y"), ("b", "x"))), ("a", "b"))
        one = (("a", "x"), ("c", "x"), ("b", "y"))
        self.assertEqual(told_apart(one, (("c", "x"), ("b", "y"), ("a", "x"))), ("a", "b"))
        self.assertIsNone(told_apart((("b", "x"), ("a", "x")), (("a", "x"), ("b", "x"))))
        self.assertIsNone(told_apart((), ()))

    def test_one_kind_is_told_where_two_part_them_too(self):
        one = (("a", "x"), ("b", "y"), ("z", "x"))
        self.assertEqual(told_apart(one, (("b", "y"), ("a", "x"), ("z", "w"))), ("z",))
        self.assertEqual(told_apart(one, (("b", "y"), ("a", "x"))), ("z",))

    def test_chains_as_long_as_may_be(self):
        other = TWELVE[::-1]
        self.assertTrue(same(TWELVE, other))
        self.assertIsNone(told_apart(TWELVE, other))
        unlike = tuple((kind, kind) for kind, _ in TWELVE)
        self.assertFalse(same(unlike, unlike[::-1]))
        self.assertEqual(len(told_apart(unlike, unlike[::-1])), 2)
        swapped = unlike[:10] + (unlike[11], unlike[10])
        self.assertEqual(told_apart(unlike, swapped), ("a", "b"))
        more = tuple((kind, "v") for kind in "mnopqrstuvwx")
        self.assertEqual(len(told_apart(TWELVE, more)), 1)

    def test_bad_chains_the_first_one_ahead(self):
        for deed in (same, told_apart):
            for thing in NO_CHAINS:
                self.assertIs(self.check_raised(BadChain, deed, thing, AT_A).given, thing)
                self.assertIs(self.check_raised(BadChain, deed, AT_A, thing).given, thing)
                for more in NO_CHAINS:
                    self.assertIs(self.check_raised(BadChain, deed, thing, more).given, thing)
            for thing in odd_things():
                if not is_chain(thing):
                    self.assertIs(self.check_raised(BadChain, deed, thing, thing).given, thing)
                    self.assertIs(self.check_raised(BadChain, deed, (), thing).given, thing)


class ChainAt(Given):
    def test_the_examples_of_the_document(self):
        self.assertEqual(chain_at(told_book(), STREAM, 2, "ink"), AT_A)
        self.assertEqual(chain_at(told_book(), STREAM, 4, "ink"), AT_B)

    def test_all_places(self):
        yellow = (("basic", "yellow"),)
        told = [chain_at(told_book(), STREAM, place, "ink") for place in range(6)]
        self.assertEqual(told, [(), yellow, AT_A, AT_A, AT_B, AT_B])
        self.assertEqual([chain_at(told_book(), STREAM, place, "weight") for place in range(6)], [()] * 6)

    def test_no_items(self):
        for aspect in ("ink", "weight"):
            self.assertEqual(chain_at(told_book(), (), 0, aspect), ())

    def test_the_place_behind_the_last_item(self):
        self.assertEqual(chain_at(told_book(), ("a", "0"), 2, "weight"), (("basic", "plain"),))
        self.assertEqual(chain_at(told_book(), ("a", "0"), 1, "weight"), ())
        self.assertEqual(chain_at(told_book(), ("a",) * 199 + ("1",), 200, "weight"), (("basic", "bold"),))

    def test_a_later_code_of_a_kind_takes_the_place_of_one_ahead(self):
        stream = ("33", "0", "38;5;208", "33", "1")
        self.assertEqual(chain_at(told_book(), stream, 5, "ink"), (("basic", "yellow"), ("many", "orange")))
        self.assertEqual(chain_at(told_book(), stream, 5, "weight"), (("basic", "bold"),))
        self.assertEqual(chain_at(told_book(), stream[::-1], 5, "ink"), (("basic", "yellow"), ("many", "orange")))

    def test_random_streams(self):
        chance = random.Random(6)
        for _ in range(400):
            book = random_book(chance, aspects="abcd", codes=8, kinds="klmnop", values="xyz")
            stream = random_stream(chance, book, 14)
            for place in range(len(stream) + 1):
                for aspect in book[0]:
                    self.assertEqual(chain_at(book, stream, place, aspect), chain_of(book, stream, place, aspect))

    def test_the_fact_of_promise_5(self):
        chance = random.Random(7)
        for _ in range(150):
            book = random_book(chance, codes=7)
            stream = random_stream(chance, book, 10)
            for terminal in some_of("klm"):
                for aspect in book[0]:
                    told = worth(chain_at(book, stream, len(stream), aspect), terminal)
                    values = [dict(gives)[aspect] for item in stream for word, kind, gives in book[2]
                              if word == item and kind in terminal and aspect in dict(gives)]
                    self.assertEqual(told, values[-1] if values else None)

    def test_what_is_no_place(self):
        for place in (-1, 6, -5, -6, 10 ** 5000, -(10 ** 5000), True, False, None, "0", "", "ink", b"0", (0,), [0],
                      (), {}, 0j, Awkward(), Agreeable(0), object(), len):
            for aspect in ("ink", "weight", "paper", None, place):
                error = self.check_raised(BadQuestion, chain_at, told_book(), STREAM, place, aspect)
                self.assertIsInstance(str(error), str)
        for place in (-1, 1, True, False):
            self.check_raised(BadQuestion, chain_at, told_book(), (), place, "ink")

    def test_what_is_no_aspect(self):
        for aspect in odd_things() + ["paper", "in", "inks", "ink ", "Ink", "basic", "yellow", ("ink",), ["ink"],
                                      b"ink", Agreeable("ink"), 0, 1, told_book()[0]]:
            for place in (0, 2, 5):
                self.check_raised(BadQuestion, chain_at, told_book(), STREAM, place, aspect)
        self.check_raised(BadQuestion, chain_at, full_book(), (), 0, "g")
        for aspect in full_book()[0]:
            self.assertEqual(chain_at(full_book(), (), 0, "".join(list(aspect))), ())

    def test_things_of_all_kinds_in_the_place_of_a_place(self):
        for place in odd_things():
            if place.__class__ is int and 0 <= place <= 5:
                self.assertIsNone(raised_by(chain_at, told_book(), STREAM, place, "ink"))
            else:
                self.check_raised(BadQuestion, chain_at, told_book(), STREAM, place, "ink")

    def test_bad_books_then_bad_streams_then_bad_questions(self):
        for thing in odd_things():
            self.check_raised(BadBook, chain_at, thing, STREAM, 0, "ink")
            self.check_raised(BadBook, chain_at, thing, thing, thing, thing)
        self.assertEqual(self.check_raised(BadBook, chain_at, (("a",), ("b",), ()), None, None, None).place, "shown")
        for thing, place in ((None, None), (["a"], None), ("a", None), (("a",) * 201, None), (("a", "2"), 1),
                             (("a", "b", None, ""), 2), (Awkward(), None), ((Agreeable("0"),), 0)):
            for more in ((0, "ink"), (-1, "paper"), (None, None), (thing, thing)):
                self.assertEqual(self.check_raised(BadStream, chain_at, told_book(), thing, *more).place, place)


class Calls(Given):
    def test_equal_calls_return_equal_results_and_change_nothing(self):
        book, chain = told_book(), AT_A + (("a", "orange"),)
        kept = copy.deepcopy((book, chain))
        for _ in range(2):
            self.assertEqual(chain_at(book, STREAM, 2, "ink"), AT_A)
            self.assertEqual(form(chain), (("orange", ("many",)), ("yellow", ("basic",)), ("orange", ("a",))))
            self.assertEqual(told_apart(chain, AT_A), ("a",))
            self.assertIs(same(chain, AT_A), False)
            self.assertEqual(worth(chain, ("a",)), "orange")
            self.assertEqual((book, chain), kept)

    def test_a_call_that_raises_changes_nothing(self):
        inner = ["a", "x"]
        for thing in (inner, (inner,), [("a", "x")], {"a": inner}):
            kept = copy.deepcopy(thing)
            for deed, more in ((need_chain, ()), (form, ()), (worth, (("a",),)), (same, ((),)), (told_apart, ((),))):
                self.check_raised(BadChain, deed, thing, *more)
            self.check_raised(BadTerminal, worth, (), thing)
            self.check_raised(BadQuestion, chain_at, told_book(), STREAM, thing, "ink")
            self.check_raised(BadQuestion, chain_at, told_book(), STREAM, 0, thing)
            self.assertEqual(thing, kept)


if __name__ == "__main__":
    unittest.main()
