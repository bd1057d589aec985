"""Tests of stylefall.seeing: promises 1 and 4."""

import copy
import itertools
import random
import unittest

from stylefall.errors import BadBook, BadEntry, BadStream, BadTerminal
from stylefall.seeing import need_entry, need_terminal, seen
from tests.things import (
    Agreeable, Awkward, Given, deep_in, full_book, is_name, odd_things, raised_by, random_book, sight, told_book)

STREAM = ("33", "38;5;208", "a", "39", "b")
ENTRY = {"ink": "red", "weight": "plain"}


class Terminals(Given):
    def test_good_terminals(self):
        many = tuple(sorted("abcdefghijkl"))
        for many_kinds in range(13):
            terminal = many[:many_kinds]
            self.assertIs(need_terminal(terminal), terminal)
        for terminal in (("basic",), ("abcdefgh", "z"), ("a", "aa", "ab", "b"), ("many", "others")):
            self.assertIs(need_terminal(terminal), terminal)

    def test_at_most_twelve_kinds(self):
        self.check_refused(BadTerminal, need_terminal, tuple("abcdefghijklm"))
        self.check_refused(BadTerminal, need_terminal, tuple("abcdefghijklmnop"))
        self.check_refused(BadTerminal, need_terminal, ("a",) * 100000)

    def test_ascending_and_unlike(self):
        for thing in (("b", "a"), ("a", "a"), ("a", "b", "b"), ("a", "c", "b"), ("aa", "a"), ("b", "c", "a")):
            self.check_refused(BadTerminal, need_terminal, thing)

    def test_kinds_that_are_none(self):
        for kind in ("", "abcdefghi", "A", "a1", "1", "a ", " ", "a\n", "-", "\u00e9", "`", "{", None, True, 1, b"a"):
            self.check_refused(BadTerminal, need_terminal, (kind,))
            self.check_refused(BadTerminal, need_terminal, ("a", kind))
            self.check_refused(BadTerminal, need_terminal, (kind, "zz"))

    def test_things_of_all_kinds(self):
        for thing in odd_things():
            if isinstance(thing, tuple) and len(thing) < 13 and all(map(is_name, thing)):
                if list(thing) == sorted(set(thing)):
                    self.assertIs(need_terminal(thing), thing)
                    continue
            self.check_refused(BadTerminal, need_terminal, thing)

    def test_things_of_all_kinds_as_a_kind(self):
        for thing in odd_things():
            if is_name(thing):
                self.assertIsNone(raised_by(need_terminal, (thing,)))
            else:
                self.check_refused(BadTerminal, need_terminal, (thing,))
                self.check_refused(BadTerminal, need_terminal, ("a", thing))

    def test_no_tuples(self):
        for thing in (["a"], [], {"a": 0}, {}, {"a"}, set(), "", "a", "ab", b"a", None, True, 0, deep_in(list, "a", 9)):
            self.check_refused(BadTerminal, need_terminal, thing)


class Entries(Given):
    def check_good(self, book, entry):
        self.assertIs(need_entry(book, entry), entry)

    def test_good_entries(self):
        self.check_good(told_book(), ENTRY)
        self.check_good(told_book(), {"ink": "a", "weight": "abcdefgh"})
        self.check_good(told_book(), {"ink": "weight", "weight": "ink"})
        self.check_good((("a",), (), ()), {"a": "b"})

    def test_any_order_of_the_keys(self):
        aspects = full_book()[0]
        for order in itertools.permutations(aspects):
            self.check_good(full_book(), {aspect: "plain" for aspect in order})

    def test_all_aspects_and_nothing_else(self):
        for thing in ({}, {"ink": "a"}, {"weight": "a"}, {"ink": "a", "weight": "b", "more": "c"},
                      {"ink": "a", "weigh": "b"}, {"ink": "a", "Weight": "b"}, {"ink": "a", "weight": "b", 1: "c"},
                      {"ink": "a", 1: "b"}, {"ink": "a", None: "b"}, {"ink": "a", ("weight",): "b"},
                      {"ink": "a", b"weight": "b"}, {"ink": "a", "weight": "b", "": "c"}):
            self.check_refused(BadEntry, need_entry, told_book(), thing)

    def test_values_as_told(self):
        for value in ("", "abcdefghi", "A", "a1", "1", "a ", " ", "a\n", "\u00e9", None, True, 1, b"a", ["a"], ("a",)):
            self.check_refused(BadEntry, need_entry, told_book(), {"ink": value, "weight": "a"})
            self.check_refused(BadEntry, need_entry, told_book(), {"ink": "a", "weight": value})

    def test_things_of_all_kinds(self):
        for thing in odd_things():
            self.check_refused(BadEntry, need_entry, told_book(), thing)
            entry = {"ink": thing, "weight": "a"}
            if is_name(thing):
                self.check_good(told_book(), entry)
            else:
                self.check_refused(BadEntry, need_entry, told_book(), entry)

    def test_keys_of_all_kinds(self):
        for key in (None, True, 0, 10 ** 5000, "a", b"ink", (), ("ink",), object(), len, frozenset({"ink"})):
            self.check_refused(BadEntry, need_entry, told_book(), {key: "a", "weight": "a"})
            self.check_refused(BadEntry, need_entry, told_book(), {key: "a", "ink": "a", "weight": "a"})

    def test_a_key_that_only_says_that_it_equals_an_aspect(self):
        self.check_refused(BadEntry, need_entry, told_book(), {Agreeable("ink"): "a", "weight": "a"})
        self.check_refused(BadEntry, need_entry, (("a",), (), ()), {Agreeable("a"): "b"})

    def test_pairs_in_the_place_of_a_dict(self):
        for thing in ([("ink", "a"), ("weight", "b")], (("ink", "a"), ("weight", "b")), {"ink", "weight"}):
            self.check_refused(BadEntry, need_entry, told_book(), thing)

    def test_bad_books_come_first(self):
        for thing in odd_things():
            self.assertIs(raised_by(need_entry, thing, {}).__class__, BadBook)
            self.assertIs(raised_by(need_entry, thing, None).__class__, BadBook)
        self.assertEqual(raised_by(need_entry, (("a",), ("b",), ()), None).place, "shown")


class Seen(unittest.TestCase):
    def test_the_example_of_the_document(self):
        book = told_book()
        self.assertEqual(seen(book, STREAM, ("basic",), ENTRY),
                         (("a", ("yellow", "plain")), ("b", ("plain", "plain"))))
        self.assertEqual(seen(book, STREAM, ("basic", "many"), ENTRY),
                         (("a", ("orange", "plain")), ("b", ("plain", "plain"))))
        self.assertEqual(seen(book, STREAM, ("many",), ENTRY),
                         (("a", ("orange", "plain")), ("b", ("orange", "plain"))))

    def test_no_kinds_at_all(self):
        looks = (("a", ("red", "plain")), ("b", ("red", "plain")))
        self.assertEqual(seen(told_book(), STREAM, (), ENTRY), looks)
        self.assertEqual(seen(told_book(), STREAM, ("basis", "none"), ENTRY), looks)

    def test_kinds_that_the_book_has_not(self):
        self.assertEqual(seen(told_book(), STREAM, ("a", "basic", "c", "z"), ENTRY),
                         seen(told_book(), STREAM, ("basic",), ENTRY))
        twelve = ("a", "b", "basic", "c", "d", "e", "f", "g", "h", "i", "j", "many")
        self.assertEqual(seen(told_book(), STREAM, twelve, ENTRY),
                         seen(told_book(), STREAM, ("basic", "many"), ENTRY))

    def test_codes_with_several_aspects(self):
        self.assertEqual(seen(told_book(), ("1", "33", "a", "0", "b", "1", "c"), ("basic",), ENTRY),
                         (("a", ("yellow", "bold")), ("b", ("plain", "plain")), ("c", ("plain", "bold"))))

    def test_blanks_and_line_ends(self):
        aspects, _, codes = told_book()
        stream = (" ", "\n", "a", "33", "1", " ", "a", "\n", "0", " ")
        for shown, red, yellow, plain in (
                ((), (), (), ()), (("ink",), ("red",), ("yellow",), ("plain",)),
                (("weight",), ("thin",), ("bold",), ("plain",)),
                (("ink", "weight"), ("red", "thin"), ("yellow", "bold"), ("plain", "plain"))):
            told = seen((aspects, shown, codes), stream, ("basic",), {"weight": "thin", "ink": "red"})
            self.assertEqual(told, (
                (" ", red), ("\n", ()), ("a", ("red", "thin")), (" ", yellow), ("a", ("yellow", "bold")),
                ("\n", ()), (" ", plain)))

    def test_looks_go_by_the_order_of_the_aspects(self):
        aspects = full_book()[0]
        entry = {aspect: value for aspect, value in zip(aspects[::-1], "uvwxyz")}
        self.assertEqual(seen(full_book(), ("a", " "), (), entry),
                         (("a", tuple("zyxwvu")), (" ", ("z", "x", "u"))))
        self.assertEqual(seen(full_book(), ("5", "a"), ("pppppppp",), entry), (("a", tuple("zyxwvv")),))

    def test_no_signs(self):
        self.assertEqual(seen(told_book(), (), ("basic",), ENTRY), ())
        self.assertEqual(seen(told_book(), ("33", "0"), ("basic",), ENTRY), ())

    def test_words_behind_the_last_sign_do_nothing(self):
        self.assertEqual(seen(told_book(), ("a", "33"), ("basic",), ENTRY), (("a", ("red", "plain")),))

    def test_the_longest_stream(self):
        told = seen(told_book(), ("33", "a", "38;5;208", "b") * 50, ("basic", "many"), ENTRY)
        self.assertEqual(told, (("a", ("yellow", "plain")), ("b", ("orange", "plain"))) * 50)

    def test_random_streams_on_all_terminals(self):
        chance = random.Random(4)
        for _ in range(300):
            book = random_book(chance, aspects="abcdef", codes=16, kinds="klm", values="uvwxyz")
            items = [code[0] for code in book[2]] * 2 + ["a", "b", " ", "\n"]
            stream = tuple(chance.choice(items) for _ in range(chance.randint(0, 30)))
            entry = {aspect: chance.choice("uvwxyz") for aspect in chance.sample(book[0], len(book[0]))}
            for many in range(5):
                for terminal in itertools.combinations("klmn", many):
                    self.assertEqual(seen(book, stream, terminal, entry), sight(book, stream, terminal, entry))


class Order(unittest.TestCase):
    """Each argument is wrong in turn, and so are all behind it."""

    def check(self, error, *told):
        raised = raised_by(seen, *told)
        self.assertIs(raised.__class__, error)
        return raised

    def test_books_streams_terminals_entries(self):
        for thing in odd_things():
            self.check(BadBook, thing, STREAM, ("basic",), ENTRY)
            self.check(BadBook, thing, thing, thing, thing)
            self.check(BadEntry, told_book(), STREAM, ("basic",), thing)
        for thing in (None, True, 1, "a", b"a", [], {}, ["a"], ("b", None), Awkward(), Agreeable()):
            self.check(BadStream, told_book(), thing, ("basic",), ENTRY)
            self.check(BadStream, told_book(), thing, thing, thing)
            raised = self.check(BadTerminal, told_book(), STREAM, thing, ENTRY)
            self.assertIs(raised.given, thing)
            raised = self.check(BadTerminal, told_book(), STREAM, thing, thing)
            self.assertIs(raised.given, thing)
            raised = self.check(BadEntry, told_book(), STREAM, ("basic",), thing)
            self.assertIs(raised.given, thing)

    def test_places_are_told(self):
        self.assertEqual(self.check(BadBook, (("a",), ("b",), ()), None, None, None).place, "shown")
        self.assertEqual(self.check(BadStream, told_book(), ("a", "2"), None, None).place, 1)
        self.assertIsNone(self.check(BadStream, told_book(), ("a",) * 201, None, None).place)


class Calls(unittest.TestCase):
    def test_nothing_that_is_passed_is_changed(self):
        book, terminal, entry = told_book(), ("basic", "many"), dict(ENTRY)
        kept = copy.deepcopy((book, terminal, entry))
        seen(book, STREAM, terminal, entry)
        need_entry(book, entry)
        self.assertEqual((book, terminal, entry), kept)
        self.assertEqual(list(entry), list(ENTRY))

    def test_nothing_that_is_passed_is_kept(self):
        book, entry = told_book(), dict(ENTRY)
        told = seen(book, ("a",), (), entry)
        need_entry(book, entry)
        entry["ink"] = "green"
        self.assertEqual(told, (("a", ("red", "plain")),))
        self.assertEqual(seen(book, ("a",), (), entry), (("a", ("green", "plain")),))
        del entry["ink"]
        self.assertIsInstance(raised_by(need_entry, book, entry), BadEntry)

    def test_equal_calls_return_equal_results(self):
        for terminal in ((), ("basic",), ("many",), ("basic", "many")):
            first = seen(told_book(), STREAM, terminal, ENTRY)
            self.assertEqual(seen(told_book(), STREAM, terminal, dict(reversed(ENTRY.items()))), first)

    def test_a_call_that_raises_changes_nothing(self):
        entry = {"ink": "red", "weight": 1}
        terminal = ["basic"]
        self.assertIsInstance(raised_by(seen, told_book(), STREAM, ("basic",), entry), BadEntry)
        self.assertIsInstance(raised_by(seen, told_book(), STREAM, terminal, entry), BadTerminal)
        self.assertIsInstance(raised_by(need_entry, told_book(), entry), BadEntry)
        self.assertEqual((entry, terminal), ({"ink": "red", "weight": 1}, ["basic"]))


if __name__ == "__main__":
    unittest.main()
