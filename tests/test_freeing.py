"""Tests of stylefall.freeing: promise 9, and 1 to 4 for these functions."""

import copy
import itertools
import random
import unittest

from stylefall.errors import BadBook, BadStream, BadTerminal
from stylefall.freeing import freeing, hangs
from tests.things import (
    Agreeable, Awkward, Given, full_book, kinds, odd_things, random_book, random_stream, sight, some_of,
    told_book, words)

STREAM = ("33", "38;5;208", "a", "39", "b")
BOOK = (("ink", "weight"), ("ink",), (
    ("1", "k", (("ink", "red"),)), ("2", "l", (("ink", "red"),)), ("3", "m", (("ink", "blue"), ("weight", "bold"))),
    ("4", "k", (("weight", "bold"),)), ("5", "l", (("weight", "thin"),)),
    ("6", "n", (("ink", "plain"), ("weight", "plain")))))


def hangs_of(book, stream, terminal):
    """The signs that look in more than one way behind entries that differ in all aspects, or in one."""
    values = [{aspect: "left" for aspect in book[0]}]
    values += [{**values[0], aspect: "right"} for aspect in book[0]]
    sights = [sight(book, stream, terminal, entry) for entry in values]
    return [number for number, pairs in enumerate(zip(*sights)) if len(set(pairs)) > 1]


def freeing_of(book, stream):
    """The least sets, each set being tried on all terminals that know its kinds, also one that no code has."""
    terminals = some_of(kinds(book) + ("z",))
    hanging = [terminal for terminal in terminals if hangs_of(book, stream, terminal)]
    free = [some for some in some_of(kinds(book)) if not any(set(some) <= set(terminal) for terminal in hanging)]
    least = [some for some in free if not any(set(other) < set(some) for other in free)]
    return tuple(sorted(least))


class Hangs(Given):
    def check(self, stream, terminal, numbers, book=BOOK):
        self.assertEqual(hangs(book, words(stream), terminal), numbers)
        self.assertEqual(hangs_of(book, words(stream), terminal), numbers)

    def test_the_example_of_the_document(self):
        book = told_book()
        for terminal in ((), ("basic",), ("many",), ("basic", "many"), ("none",)):
            self.assertEqual(hangs(book, STREAM, terminal), [0, 1])
            self.assertEqual(hangs(book, ("1",) + STREAM, terminal), [] if "basic" in terminal else [0, 1])
        self.assertEqual(hangs(book, ("a", "0", "b", "c", "\n", " ", "d"), ("basic",)), [0])
        self.assertEqual(hangs(book, ("a", "0", "b", "c", "\n", " ", "d"), ("many",)), [0, 1, 2, 5])

    def test_codes_that_the_terminal_knows(self):
        self.check("3a", ("m",), [])
        self.check("3a", ("k",), [0])
        self.check("3a", (), [0])
        self.check("14a", ("k",), [])
        self.check("14a", ("l", "m", "n"), [0])
        self.check("15a", ("k",), [0])
        self.check("15a", ("l",), [0])
        self.check("15a", ("k", "l"), [])
        self.check("36a", ("m",), [])
        self.check("36a", ("n",), [])

    def test_numbers_ascend_and_leave_words_aside(self):
        self.check("a1b4c", ("k",), [0, 1])
        self.check("ab3cd", ("m",), [0, 1])
        self.check("1a2bn3c4d", ("k", "m"), [0, 1])
        self.check("aaaaaaaaaaaa3a", ("m",), list(range(12)))
        self.check("aaaaaaaaaaaa3a", ("k",), list(range(13)))

    def test_line_ends_hang_never(self):
        for terminal in ((), ("k",), ("k", "l", "m", "n")):
            self.check("nnn", terminal, [])
            self.check("n1nan", terminal, [2])
            self.check("nan", terminal, [1], (("a",), ("a",), ()))

    def test_blanks_hang_for_the_aspects_that_show_there_alone(self):
        self.check(" ", (), [0])
        self.check("1 ", ("k",), [])
        self.check("1 a", ("k",), [1])
        self.check("4 a", ("k",), [0, 1])
        for shown, numbers in (((), []), (("ink",), []), (("weight",), [0]), (("ink", "weight"), [0])):
            self.check("1 ", ("k",), numbers, (BOOK[0], shown, BOOK[2]))
        self.check("   ", (), [], (BOOK[0], (), BOOK[2]))

    def test_no_signs(self):
        self.check("", (), [])
        self.check("123456", (), [])

    def test_values_that_may_have_been_left_too(self):
        """A value that some entry might have left, too, is the same behind all of them."""
        self.check("6a", ("n",), [])
        self.assertEqual(hangs((("a",), (), (("1", "k", (("a", "plain"),)),)), ("1", "a"), ("k",)), [])

    def test_kinds_that_the_book_has_not(self):
        self.check("3a", ("a", "b", "m", "z"), [])
        self.check("3a", tuple("abcdefghijkl"), [0])
        self.check("3a", tuple("abcdefghijk") + ("m",), [])

    def test_random_streams(self):
        chance = random.Random(12)
        told = {}
        for _ in range(300):
            book = random_book(chance, codes=8, kinds="klmn")
            stream = random_stream(chance, book, 12)
            for terminal in some_of("klm"):
                numbers = hangs(book, stream, terminal)
                self.assertEqual(numbers, hangs_of(book, stream, terminal))
                told[len(numbers)] = told.get(len(numbers), 0) + 1
        self.assertGreater(len(told), 5)

    def test_bad_books_then_bad_streams_then_bad_terminals(self):
        for thing in odd_things():
            self.check_raised(BadBook, hangs, thing, (), ())
            self.check_raised(BadBook, hangs, thing, thing, thing)
        self.assertEqual(self.check_raised(BadBook, hangs, (("a",), ("b",), ()), None, None).place, "shown")
        for thing, place in ((None, None), (["a"], None), ("a", None), (("a",) * 201, None), (("a", "9"), 1),
                             (("a", "b", None, ""), 2), (Awkward(), None), ((Agreeable("1"),), 0)):
            for terminal in ((), ("k",), None, thing):
                self.assertEqual(self.check_raised(BadStream, hangs, BOOK, thing, terminal).place, place)
        for thing in (None, True, 1, "k", ["k"], ("l", "k"), ("k", "k"), ("K",), (1,), tuple("abcdefghijklm"), {},
                      Awkward(), Agreeable(), (Agreeable("k"),), 10 ** 5000):
            for stream in ((), ("1", "a")):
                self.check_refused(BadTerminal, hangs, BOOK, stream, thing)


class Freeing(Given):
    def check(self, stream, sets, book=BOOK):
        self.assertEqual(freeing(book, words(stream)), sets)
        self.assertEqual(freeing_of(book, words(stream)), sets)

    def test_the_example_of_the_document(self):
        self.assertEqual(freeing(told_book(), STREAM), ())
        self.assertEqual(freeing(told_book(), ("1",) + STREAM), (("basic",),))
        self.assertEqual(freeing(told_book(), ("1", "38;5;208", "a")), (("basic", "many"),))

    def test_a_stream_that_hangs_nowhere(self):
        self.check("", ((),))
        self.check("123456", ((),))
        self.check("n", ((),))
        self.check("1n2n", ((),))
        self.check(" n ", ((),), (BOOK[0], (), BOOK[2]))
        self.check("", ((),), (("a",), (), ()))

    def test_a_stream_that_no_set_frees(self):
        self.check("a", ())
        self.check("a3b", ())
        self.check("1a", ())
        self.check("4 ", ())
        self.check("3b36 n1", (("m",),))
        self.check("a", (), (("a",), (), ()))

    def test_least_sets_alone(self):
        self.check("3a", (("m",),))
        self.check("36a", (("m",), ("n",)))
        self.check("14a", (("k",),))
        self.check("15a", (("k", "l"),))
        self.check("12 ", (("k",), ("l",)))
        self.check("153a", (("k", "l"), ("m",)))
        self.check("12345a", (("k",), ("l",), ("m",)))
        self.check("3a6b", (("m",),))
        self.check("156a", (("k", "l"), ("n",)))

    def test_all_signs_have_to_be_free(self):
        self.check("1 6a", (("k", "n"),))
        self.check("12 6a", (("k", "n"), ("l", "n")))
        self.check("12 36a", (("k", "m"), ("k", "n"), ("l", "m"), ("l", "n")))
        self.check("1 ", (("k",),))
        self.check("1 a", ())

    def test_the_tuple_ascends(self):
        """A set of more kinds may come ahead of one of fewer."""
        codes = (("1", "a", (("x", "v"),)), ("2", "c", (("y", "v"),)), ("3", "b", (("x", "v"), ("y", "v"))))
        self.check("123a", (("a", "c"), ("b",)), (("x", "y"), (), codes))
        codes = tuple((str(number), kind, (("x", "v"),)) for number, kind in enumerate(("z", "aa", "b", "a", "ab")))
        self.check("01234a", (("a",), ("aa",), ("ab",), ("b",), ("z",)), (("x",), (), codes))

    def test_many_kinds_at_once(self):
        book = full_book()
        self.assertEqual(freeing(book, ("0", "1", "2", "3", "4", "5", "a")), (("k", "l", "m", "n", "o", "pppppppp"),))
        self.assertEqual(freeing(book, ("0", "1", "2", "3", "4", "5", "0;1;2;;3", "a")), (("k",),))
        codes = tuple((str(number), "klmnop"[number], ((aspect, "v"),)) for number, aspect in enumerate("aabbcc"))
        sets = tuple(itertools.product("kl", "mn", "op"))
        self.assertEqual(freeing((("a", "b", "c"), (), codes), words("012345a")), sets)

    def test_streams_as_long_as_may_be(self):
        book = full_book()
        stream = ("0;1;2;;3",) + tuple(str(number % 15) if number % 2 else "a" for number in range(199))
        self.assertEqual(freeing(book, stream), (("k",),))
        self.assertEqual(hangs(book, stream, ("k",)), [])
        self.assertEqual(hangs(book, stream, ("l",)), list(range(100)))

    def test_random_streams(self):
        chance = random.Random(13)
        told = {}
        for _ in range(250):
            book = random_book(chance, aspects="ab", codes=8, kinds="klmn")
            stream = random_stream(chance, book, 9)
            if book[2] and chance.random() < 0.7:
                stream = tuple(chance.choice(book[2])[0] for _ in range(5)) + stream
            sets = freeing(book, stream)
            self.assertEqual(sets, freeing_of(book, stream))
            told[len(sets)] = told.get(len(sets), 0) + 1
        for many in (0, 1, 2, 3):
            self.assertGreater(told.get(many, 0), 5)

    def test_all_is_of_tuples(self):
        told = freeing(BOOK, words("153a"))
        for thing in (told, told[0], told[1]):
            self.assertIs(thing.__class__, tuple)

    def test_bad_books_then_bad_streams(self):
        for thing in odd_things():
            self.check_raised(BadBook, freeing, thing, ())
            self.check_raised(BadBook, freeing, thing, thing)
            if not isinstance(thing, tuple) or len(thing) > 200:
                self.assertIsNone(self.check_raised(BadStream, freeing, BOOK, thing).place)
        self.assertEqual(self.check_raised(BadBook, freeing, (("a",), ("b",), ()), None).place, "shown")
        for thing, place in ((None, None), (["a"], None), (("a", "9"), 1), (("a", "b", None, ""), 2)):
            self.assertEqual(self.check_raised(BadStream, freeing, BOOK, thing).place, place)


class Calls(Given):
    def test_lists_are_the_callers_own(self):
        told = hangs(BOOK, words("ab"), ())
        self.assertIs(told.__class__, list)
        told.append(7)
        self.assertEqual(hangs(BOOK, words("ab"), ()), [0, 1])

    def test_equal_calls_return_equal_results_and_change_nothing(self):
        given = (copy.deepcopy(BOOK), words("12 36a"), ("k", "n"))
        kept = copy.deepcopy(given)
        for deed, many in ((hangs, 3), (freeing, 2)):
            self.assertEqual(deed(*given[:many]), deed(*given[:many]))
            self.assertEqual(given, kept)

    def test_a_call_that_raises_changes_nothing(self):
        stream, terminal = ["a", "1"], ["k"]
        self.check_raised(BadStream, hangs, BOOK, stream, ())
        self.check_raised(BadStream, freeing, BOOK, stream)
        self.check_raised(BadTerminal, hangs, BOOK, ("a",), terminal)
        self.assertEqual((stream, terminal), (["a", "1"], ["k"]))


if __name__ == "__main__":
    unittest.main()
