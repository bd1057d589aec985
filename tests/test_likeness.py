"""Tests of stylefall.likeness: promises 7 and 8, and 1 to 4 for these functions."""

import copy
import itertools
import random
import unittest

from stylefall.books import need_stream, signs_of
from stylefall.errors import BadBook, BadQuestion, BadStream
from stylefall.likeness import alike, lean, needless, parted
from stylefall.seeing import need_entry, need_terminal, seen
from tests.things import (
    Agreeable, Awkward, Given, full_book, kinds, odd_things, random_book, random_stream, sight, some_of,
    told_book, words)

# Red is told by three kinds, blue by two, and "5" gives two aspects at once.
BOOK = (("ink", "weight"), ("ink",), (
    ("1", "k", (("ink", "red"),)), ("2", "l", (("ink", "red"),)), ("3", "m", (("ink", "red"),)),
    ("4", "k", (("ink", "blue"),)), ("5", "l", (("ink", "blue"), ("weight", "bold"))),
    ("6", "k", (("weight", "bold"),)), ("7", "k", (("ink", "plain"), ("weight", "plain"))),
    ("8", "l", (("ink", "other"), ("weight", "other"))), ("11", "k", (("ink", "red"),))))
NO_STREAMS = ((None, None), (["a"], None), ("a", None), (("a",) * 201, None), (("a", "99"), 1),
              (("a", "b", None, ""), 2), ((True,), 0), (Awkward(), None), ((Agreeable("0"),), 0))


def is_word(item):
    return item[0] in "0123456789"


def entries(book):
    """All entries of the values of the book, and one that it has not."""
    values = sorted({value for _, _, gives in book[2] for _, value in gives}) + ["unknown"]
    for chosen in itertools.product(values, repeat=len(book[0])):
        yield dict(zip(book[0], chosen))


def views(book, stream):
    """What is seen on all terminals behind values that no code gives."""
    entry = {aspect: "unknown" for aspect in book[0]}
    return [seen(book, stream, terminal, entry) for terminal in some_of(kinds(book))]


def least_kinds(book, one, other):
    """How few kinds a terminal of a parting has, or None without one."""
    views_of_two = zip(some_of(kinds(book)), views(book, one), views(book, other))
    return min((len(terminal) for terminal, first, second in views_of_two if first != second), default=None)


def needless_of(book, stream):
    told = views(book, stream)
    return [number for number, item in enumerate(stream)
            if is_word(item) and views(book, stream[:number] + stream[number + 1:]) == told]


def lean_of(book, stream):
    """The lean form just as the document tells it, all items being looked at again each time."""
    left = needless_of(book, stream)
    while left:
        stream = stream[:left[0]] + stream[left[0] + 1:]
        left = needless_of(book, stream)
    return stream


def shaken(chance, book, stream):
    """A stream with the same signs, some of its words moved, doubled, left out or changed."""
    items = list(stream)
    all_words = [code[0] for code in book[2]]
    for _ in range(chance.randint(0, 2)):
        place = chance.randint(0, len(items))
        side_by_side = [at for at in range(1, len(items)) if is_word(items[at - 1]) and is_word(items[at])]
        deed = chance.choice(("put", "leave", "swap", "swap"))
        if deed == "put" and all_words:
            items.insert(place, chance.choice(all_words))
        elif deed == "leave" and items[place:] and is_word(items[place]):
            items.pop(place)
        elif deed == "swap" and side_by_side:
            place = chance.choice(side_by_side)
            items[place - 1:place + 1] = items[place], items[place - 1]
    return tuple(items)


class Likeness(Given):
    def check_parting(self, book, one, other, parting):
        """The parting is one, as the package and as the words of the document see it."""
        self.assertIs(parting.__class__, tuple)
        terminal, entry, number = parting
        self.assertIs(need_terminal(terminal), terminal)
        self.assertIs(need_entry(book, entry), entry)
        self.assertIs(number.__class__, int)
        self.assertIn(number, range(len(signs_of(book, one))))
        for sees in (seen, sight):
            first, second = sees(book, one, terminal, entry)[number], sees(book, other, terminal, entry)[number]
            self.assertEqual(first[0], second[0])
            self.assertNotEqual(first[1], second[1])

    def check(self, book, one, other):
        least = least_kinds(book, one, other)
        for first, second in ((one, other), (other, one)):
            self.assertIs(alike(book, first, second), least is None)
            parting = parted(book, first, second)
            if least is None:
                self.assertIsNone(parting)
            else:
                self.check_parting(book, first, second, parting)
                self.assertEqual(len(parting[0]), least)
        return least


class Alike(Likeness):
    def check_alike(self, one, other, book=BOOK):
        self.assertIsNone(self.check(book, words(one), words(other)))

    def check_parted(self, one, other, least, book=BOOK):
        self.assertEqual(self.check(book, words(one), words(other)), least)

    def test_a_stream_and_itself(self):
        for stream in ("", "a", " ", "n", "1", "1a2b3 n4", "12345678"):
            self.check_alike(stream, stream)

    def test_alike_though_their_codes_are_unlike(self):
        book = BOOK[:2] + (BOOK[2] + (("9", "m", (("ink", "red"),)),),)
        self.check_alike("3a", "9a", book)
        self.check_alike("12a", "21a")
        self.check_alike("123a", "312a")
        self.check_alike("41a", "1a")
        self.check_alike("1a1b", "1ab")
        self.check_alike("41a22b", "1a2b")
        self.assertTrue(alike(BOOK, ("1", "a"), ("11", "a")))
        self.assertIsNone(parted(BOOK, ("11", "a"), ("1", "a")))

    def test_words_behind_the_last_sign_do_nothing(self):
        self.check_alike("1a2345678", "1a")
        self.check_alike("12345678", "")

    def test_one_kind_is_needed(self):
        self.check_parted("1a", "a", 1)
        self.check_parted("1a", "4a", 1)
        self.check_parted("1a", "2a", 1)
        self.check_parted("12a", "1a", 1)
        self.check_parted("7a", "a", 1)
        self.check_parted("8a", "a", 1)
        self.check_parted("1a", "a1", 1)

    def test_two_kinds_are_needed(self):
        self.check_parted("15a", "51a", 2)
        self.check_parted("42a", "24a", 2)
        self.check_parted("342a", "423a", 2)
        self.check_parted("78a", "87a", 2)

    def test_the_examples_of_the_document(self):
        two = parted(told_book(), ("33", "38;5;208", "a", "39", "b"), ("38;5;208", "33", "a", "39", "b"))
        self.assertEqual((two[0], two[2]), (("basic", "many"), 0))
        one = parted(told_book(), ("33", "38;5;208", "a", "39", "b"), ("33", "38;5;208", "a", "b"))
        self.assertEqual((one[0], one[2]), (("basic",), 1))
        self.assertTrue(alike(told_book(), ("0", "a"), ("1", "33", "0", "a")))
        self.assertFalse(alike(told_book(), ("0", "a"), ("39", "a")))

    def test_a_least_parting_at_a_later_sign(self):
        self.check_parted("15a7b", "51a7b", 2)
        self.check_parted("15a7b", "51a8b", 1)
        parting = parted(BOOK, words("15a4b"), words("51a1b"))
        self.assertEqual((parting[0], parting[2]), (("k",), 1))
        parting = parted(BOOK, words("4b15a"), words("1b51a"))
        self.assertEqual((parting[0], parting[2]), (("k",), 0))

    def test_a_least_parting_in_a_later_aspect(self):
        book = (("a", "b"), (), (("1", "k", (("a", "x"),)), ("2", "l", (("a", "y"),)), ("3", "k", (("b", "x"),))))
        self.check_parted("12a", "21a", 2, book)
        self.check_parted("12a", "213a", 1, book)
        self.check_parted("123a", "21a", 1, book)

    def test_numbers_of_signs_leave_words_aside(self):
        self.assertEqual(parted(BOOK, words("1a1 1n1b"), words("1a1 1n4b"))[2], 3)
        self.assertEqual(parted(BOOK, words("1a1 1n1b"), words("1a4 1n1b"))[2], 1)

    def test_blanks_where_only_some_aspects_show(self):
        self.check_alike("6 ", " ")
        self.check_alike("6 6a", " 6a")
        self.check_parted("6a", "a", 1)
        self.check_parted("1 ", " ", 1)
        self.check_parted("5 ", "8 ", 1)
        self.check_alike("167 ", "17 ")
        for shown, least in (((), None), (("ink",), None), (("weight",), 1), (("ink", "weight"), 1)):
            self.check_parted("6 ", " ", least, (BOOK[0], shown, BOOK[2]))
            self.check_parted("6 a", " 6a", least, (BOOK[0], shown, BOOK[2]))

    def test_line_ends_show_nothing(self):
        self.check_alike("1n", "n")
        self.check_alike("1n78n", "4n65n", (BOOK[0], BOOK[0], BOOK[2]))
        self.check_alike("1n1a", "n1a")
        self.check_parted("1na", "na", 1)

    def test_no_values_that_are_left_hide_a_parting(self):
        """The values that the package might take for an entry of its own are given by codes, too."""
        chosen = ["plain", "other", "left", "x", "a", "b", "red", "none", "zz"]
        for one, other in itertools.permutations(chosen, 2):
            book = (("a", "b"), (), (("1", "k", (("a", one),)), ("2", "k", (("a", other), ("b", one))),
                                     ("3", "l", (("a", other),))))
            for first, second in (("1a", "a"), ("2a", "a"), ("1a", "2a"), ("1a", "3a"), ("3a", "a")):
                self.check_parted(first, second, 1, book)
            self.check_parted("13a", "31a", 2, book)

    def test_random_streams(self):
        chance = random.Random(8)
        told = {}
        for _ in range(700):
            book = random_book(chance, aspects="ab", codes=6)
            one = random_stream(chance, book, 11) + ("a",)
            least = self.check(book, one, shaken(chance, book, one))
            told[least] = told.get(least, 0) + 1
        self.assertEqual(set(told), {None, 1, 2})
        self.assertGreater(min(told.values()), 20)

    def test_random_streams_behind_all_entries(self):
        chance = random.Random(9)
        told = [0, 0]
        for _ in range(100):
            book = random_book(chance, aspects="ab", codes=5)
            one = random_stream(chance, book, 6) + ("a",)
            other = shaken(chance, book, one)
            same = all(sight(book, one, terminal, entry) == sight(book, other, terminal, entry)
                       for terminal in some_of(kinds(book)) for entry in entries(book))
            self.assertIs(alike(book, one, other), same)
            told[same] += 1
        self.assertGreater(min(told), 10)

    def test_streams_as_long_as_may_be(self):
        book = full_book()
        stream = tuple(str(number % 15) if number % 3 else "a" for number in range(200))
        self.assertTrue(alike(book, stream, stream))
        self.assertIsNone(parted(book, stream, stream))
        other = stream[:100] + ("0;1;2;;3",) + stream[101:]
        self.assertFalse(alike(book, stream, other))
        self.check_parting(book, stream, other, parted(book, stream, other))


class Needless(Likeness):
    def check_needless(self, stream, numbers, left, book=BOOK):
        self.assertEqual(needless(book, words(stream)), numbers)
        self.assertEqual(lean(book, words(stream)), words(left))

    def test_no_words(self):
        for stream in ("", "a", " ", "n", "a b n c"):
            self.check_needless(stream, [], stream)

    def test_words_that_nothing_shows(self):
        self.check_needless("1", [0], "")
        self.check_needless("12345678", [0, 1, 2, 3, 4, 5, 6, 7], "")
        self.check_needless("a1", [1], "a")
        self.check_needless("1n", [0], "n")
        self.check_needless("6 ", [0], " ")
        self.check_needless("1 ", [], "1 ")
        self.check_needless("6 a", [], "6 a")

    def test_words_that_others_take_the_place_of(self):
        self.check_needless("14a", [0], "4a")
        self.check_needless("11a", [0, 1], "1a")
        self.check_needless("111a", [0, 1, 2], "1a")
        self.check_needless("1a1b", [2], "1ab")
        self.check_needless("12a", [], "12a")
        self.check_needless("121a", [0, 2], "21a")
        self.check_needless("1215a", [0, 1, 2], "15a")

    def test_only_the_first_one_is_left_out_at_a_time(self):
        self.check_needless("1 11a", [2, 3], "1 a")
        self.assertEqual(lean(BOOK, ("1", "11", "a")), ("11", "a"))
        self.assertEqual(lean(BOOK, ("11", "1", "a")), ("1", "a"))
        self.assertEqual(needless(BOOK, ("11", "1", "a")), [0, 1])

    def test_the_example_of_the_document(self):
        stream = ("0", "33", "38;5;208", "33", "a", "39", "39", "b", "1")
        self.assertEqual(needless(told_book(), stream), [1, 5, 6, 8])
        self.assertEqual(lean(told_book(), stream), ("0", "38;5;208", "33", "a", "39", "b"))

    def test_random_streams(self):
        chance = random.Random(10)
        fewer = {}
        for _ in range(250):
            book = random_book(chance, aspects="ab", codes=6)
            stream = random_stream(chance, book, 11)
            self.assertEqual(needless(book, stream), needless_of(book, stream))
            told = lean(book, stream)
            self.assertEqual(told, lean_of(book, stream))
            many = len(stream) - len(told)
            fewer[many] = fewer.get(many, 0) + 1
        self.assertGreater(len(fewer), 5)

    def test_lean_forms_are_alike_and_have_nothing_needless(self):
        chance = random.Random(11)
        for _ in range(40):
            book = random_book(chance, aspects="abc", codes=10, kinds="klmn")
            stream = random_stream(chance, book, 40)
            told = lean(book, stream)
            self.assertIs(need_stream(book, told), told)
            self.assertTrue(alike(book, stream, told))
            self.assertEqual(needless(book, told), [])
            self.assertEqual(lean(book, told), told)
            while needless(book, stream):
                first = needless(book, stream)[0]
                stream = stream[:first] + stream[first + 1:]
            self.assertEqual(told, stream)

    def test_streams_as_long_as_may_be(self):
        self.check_needless("1" * 199 + "a", list(range(199)), "1a")
        self.check_needless("1" * 200, list(range(200)), "")
        self.check_needless("12" * 99 + "ab", list(range(198)), "12ab")
        self.check_needless("42" * 99 + "ab", list(range(197)), "42ab")
        stream = tuple(str(number % 15) if number % 2 else "a" for number in range(200))
        told = lean(full_book(), stream)
        self.assertEqual(needless(full_book(), told), [])
        self.assertTrue(alike(full_book(), stream, told))


class Order(Given):
    def test_bad_books_come_first(self):
        for thing in odd_things():
            for deed, many in ((alike, 2), (parted, 2), (needless, 1), (lean, 1)):
                self.check_raised(BadBook, deed, thing, *[()] * many)
                self.check_raised(BadBook, deed, thing, *[thing] * many)
        for deed, many in ((alike, 2), (parted, 2), (needless, 1), (lean, 1)):
            self.assertEqual(self.check_raised(BadBook, deed, (("a",), ("b",), ()), *[None] * many).place, "shown")

    def test_bad_streams_the_first_one_ahead(self):
        for thing, place in NO_STREAMS:
            for deed in (needless, lean):
                self.assertEqual(self.check_raised(BadStream, deed, BOOK, thing).place, place)
            for deed in (alike, parted):
                self.assertEqual(self.check_raised(BadStream, deed, BOOK, ("a",), thing).place, place)
                for other in (("a",), ("b", "b"), thing, None, ("a",) * 150 + ("99",)):
                    self.assertEqual(self.check_raised(BadStream, deed, BOOK, thing, other).place, place)

    def test_things_of_all_kinds_in_the_place_of_a_stream(self):
        for thing in odd_things():
            if not isinstance(thing, tuple) or len(thing) > 200:
                for deed in (alike, parted):
                    self.assertIsNone(self.check_raised(BadStream, deed, BOOK, thing, ("a", None)).place)
                    self.assertIsNone(self.check_raised(BadStream, deed, BOOK, ("a",), thing).place)
                for deed in (needless, lean):
                    self.assertIsNone(self.check_raised(BadStream, deed, BOOK, thing).place)

    def test_unlike_signs(self):
        for one, other in (("a", "b"), ("a", ""), ("a", "aa"), ("ab", "ba"), ("a ", "a"), ("a", " "), ("n", " "),
                           ("1a", "1"), ("1a2b", "1b2a"), ("a1", "1"), ("an", "na"), ("", "n")):
            for deed in (alike, parted):
                for first, second in ((one, other), (other, one)):
                    error = self.check_raised(BadQuestion, deed, BOOK, words(first), words(second))
                    self.assertIsInstance(str(error), str)


class Calls(Given):
    def test_lists_are_the_callers_own(self):
        stream = words("11a")
        told = needless(BOOK, stream)
        self.assertIs(told.__class__, list)
        told.append(7)
        self.assertEqual(needless(BOOK, stream), [0, 1])

    def test_entries_are_the_callers_own(self):
        told = parted(BOOK, words("1a"), words("a"))
        told[1].clear()
        again = parted(BOOK, words("1a"), words("a"))
        self.assertEqual(set(again[1]), {"ink", "weight"})

    def test_equal_calls_return_equal_results_and_change_nothing(self):
        given = (copy.deepcopy(BOOK), words("15a11b7 "), words("51a1b7 "))
        kept = copy.deepcopy(given)
        for deed, many in ((alike, 3), (parted, 3), (needless, 2), (lean, 2)):
            self.assertEqual(deed(*given[:many]), deed(*given[:many]))
            self.assertEqual(given, kept)

    def test_a_call_that_raises_changes_nothing(self):
        stream = ["a", "1"]
        for deed, more in ((alike, (("a",),)), (parted, (("a",),)), (needless, ()), (lean, ())):
            self.check_raised(BadStream, deed, BOOK, stream, *more)
        self.assertEqual(stream, ["a", "1"])


if __name__ == "__main__":
    unittest.main()
