"""Tests of stylefall.closing: promise 17, and 1, 2, 12 and 14 to 16 for these functions."""

import copy
import itertools
import random
import unittest

from stylefall.closing import close_for, closes, is_barred, shortest_close
from stylefall.errors import BadBook, BadRow, TooMany
from stylefall.rows import front, size_of
from stylefall.wrappers import restores
from tests.things import (
    Agreeable, Awkward, Given, all_rows, bad_books, kinds, many_codes, odd_things, plain, random_book, sight, some_of,
    told_book)

BOOK = (("ink", "weight"), ("ink",), (
    ("1", "k", (("weight", "bold"),)), ("2", "k", (("ink", "red"),)), ("3", "l", (("ink", "blue"),)),
    ("4", "k", (("ink", "plain"), ("weight", "plain"))), ("5;5", "k", (("ink", "plain"),)),
    ("6", "l", (("ink", "plain"), ("weight", "bold"))), ("7", "m", (("ink", "plain"),))))
BAR = ("1", "2", "4", "5;5", "7")
NO_ROWS = (
    None, True, False, 0, 1, "", "1", b"1", [], ["1"], {}, {"1": "1"}, ("8",), ("1", "8"), ("a",), (" ",), ("\n",),
    ("5",), ("5;",), (1,), (True,), (None,), (("1",),), (["1"],), (Agreeable("1"),), (Awkward(),), Agreeable("1"),
    Awkward(), ("1",) * 61, ("1",) * 100000, ("",), 10 ** 5000)


def row_closes(book, row, other):
    """Whether all aspects are plain behind both rows on all terminals behind plain, by what is seen of a letter."""
    for terminal in some_of(kinds(book)):
        [(_, look)] = sight(book, row + other + ("a",), terminal, plain(book))
        if set(look) != {"plain"}:
            return False
    return True


def bars_of(book, row):
    """All that bar a row, by the words of the document."""
    bars = []
    pairs = [(aspect, kind) for aspect, chain in front(book, row) for kind, value in chain if value != "plain"]
    for some in some_of(sorted(word for word, _, _ in book[2])):
        settled = {(aspect, kind) for word, kind, gives in book[2] if word in some for aspect, _ in gives}
        others = [(kind, gives) for word, kind, gives in book[2] if word not in some]
        if all(pair in settled for pair in pairs):
            continue
        if all(any(value != "plain" and (aspect, kind) not in settled for aspect, value in gives)
               for kind, gives in others):
            bars.append(some)
    return bars


def closing_book(chance, most):
    """A book in which many values are plain, with words of unlike sizes."""
    book = random_book(chance, aspects="ab", codes=most, kinds="kl"[:chance.randint(1, 2)],
                       values=("x", "plain", "plain"))
    names = chance.sample(["1", "2;2", "33", "4;4;4;4", "55555555"], 5)
    rows = [(name,) + code[1:] for name, code in zip(names, book[2])]
    if chance.random() < 0.5:
        offs = [(name, kind, (chance.choice(gives),)) for name, kind, gives in rows[1:]]
        rows = [(name, kind, tuple((aspect, "x") for aspect in book[0])) for name, kind, _ in rows[:1]] + offs
    return book[:2] + (tuple(rows),)


def some_row(chance, book, most=4):
    items = [code[0] for code in book[2]]
    return tuple(chance.choice(items) for _ in range(chance.randint(0, most) if items else 0))


class Closes(Given):
    def check(self, row, other, told, book=BOOK):
        self.assertIs(closes(book, row, other), told)
        self.assertIs(row_closes(book, row, other), told)

    def test_rows_that_close_and_that_do_not(self):
        for row, other, told in (
                ((), (), True), (("1",), (), False), (("1",), ("4",), True), (("1",), ("5;5",), False),
                (("2",), ("5;5",), True), (("2",), ("4",), True), (("2",), ("7",), False), (("3",), ("4",), False),
                (("3",), ("6",), False), (("3",), ("6", "4"), False), (("4",), (), True), (("7", "5;5"), (), True),
                ((), ("4",), True), ((), ("7",), True), ((), ("1",), False), ((), ("1", "4"), True),
                (("4", "1"), (), False), (("1", "4"), (), True), (("1", "2"), ("4",), True)):
            self.check(row, other, told)

    def test_rows_of_more_than_12_words_and_at_most_60(self):
        self.check(("1", "2") * 30, ("4",), True)
        self.check(("1", "2") * 30, ("5;5",) * 60, False)
        self.check(("1",) * 13, ("2",) * 59 + ("4",), True)
        self.check(("4", "1") * 30, ("5;5",) * 60, False)
        for row in (("1",) * 60, ("4",) * 60):
            self.check(row, row, row[0] == "4")

    def test_random_rows(self):
        chance = random.Random(50)
        told = [0, 0]
        for _ in range(500):
            book = closing_book(chance, 5)
            row, other = some_row(chance, book), some_row(chance, book)
            good = row_closes(book, row, other)
            self.check(row, other, good, book)
            self.assertIs(restores(book, ((row, other),), 0), good)
            told[good] += 1
        self.assertGreater(min(told), 100)

    def test_bad_books_then_bad_rows_the_first_one_ahead(self):
        for thing in bad_books():
            for row, other in ((("1",), ("1",)), (None, None)):
                self.check_raised(BadBook, closes, thing, row, other)
        for thing in NO_ROWS:
            self.assertIs(self.check_raised(BadRow, closes, BOOK, thing, ("1",)).given, thing)
            self.assertIs(self.check_raised(BadRow, closes, BOOK, ("1",), thing).given, thing)
            for other in NO_ROWS:
                self.assertIs(self.check_raised(BadRow, closes, BOOK, thing, other).given, thing)
        for thing in odd_things():
            if not (isinstance(thing, tuple) and len(thing) == 0):
                self.assertIs(self.check_raised(BadRow, closes, BOOK, thing, ()).given, thing)
                self.assertIs(self.check_raised(BadRow, closes, BOOK, (), thing).given, thing)


class CloseFor(Given):
    def check(self, book, row):
        told = close_for(book, row)
        self.assertEqual([thing.__class__ for thing in (told, told[1])], [tuple] * 2)
        name, found = told
        if name == "row":
            self.assertTrue(row_closes(book, row, found))
            self.assertIs(closes(book, row, found), True)
            self.assertEqual(len(set(found)), len(found))
            for at in range(len(found)):
                self.assertFalse(row_closes(book, row, found[:at] + found[at + 1:]), "an idle word")
        else:
            self.assertEqual(name, "bar")
            self.assertIn(found, bars_of(book, row))
            self.assertIs(is_barred(book, row, found), True)
        return name

    def test_rows_and_bars(self):
        for row, name in (((), "row"), (("4", "7"), "row"), (("1",), "row"), (("2",), "row"), (("3",), "bar"),
                          (("6",), "bar"), (("3", "2"), "bar"), (("1",) * 60, "row"), (("1", "3") * 30, "bar")):
            self.assertEqual(self.check(BOOK, row), name)
        self.assertEqual(close_for(BOOK, ()), ("row", ()))
        self.assertEqual(close_for(BOOK, ("4", "7")), ("row", ()))
        self.assertEqual(close_for(told_book(), ("1",)), ("row", ("0",)))
        self.assertEqual(close_for(told_book(), ("39",)), ("row", ()))
        self.assertEqual(close_for(told_book(), ("38;5;208",))[0], "bar")
        self.assertEqual(close_for((("a",), (), ()), ()), ("row", ()))
        self.assertEqual(close_for((("a",), (), (("1", "k", (("a", "x"),)),)), ("1",)), ("bar", ()))

    def test_codes_that_give_what_is_not_plain_ahead_of_others_that_take_it_back(self):
        book = (("a", "b"), (), (("1", "k", (("a", "x"),)), ("2", "k", (("a", "plain"), ("b", "x"))),
                                 ("3", "k", (("b", "plain"),))))
        self.assertEqual(close_for(book, ("1",)), ("row", ("2", "3")))
        self.assertEqual(shortest_close(book, ("1",)), ("2", "3"))
        self.check(book, ("1",))

    def test_random_rows_by_all_rows_of_unlike_words(self):
        chance = random.Random(51)
        told = {"row": 0, "bar": 0}
        for _ in range(700):
            book = closing_book(chance, 4)
            row = some_row(chance, book)
            name = self.check(book, row)
            told[name] += 1
            self.assertEqual(name == "row", any(row_closes(book, row, other) for other in all_rows(book)))
            self.assertEqual(name == "bar", bars_of(book, row) != [])
        self.assertGreater(min(told.values()), 80)

    def test_sixteen_codes(self):
        aspects, offs = tuple("abcdef"), {"a": "plain", "b": "plain"}
        for last in (offs, {**offs, "c": "x"}):
            codes = [("0", "k", dict.fromkeys(aspects, "x")), ("15", "k", last)]
            for at in range(1, 15):
                codes.append((str(at), "k", {aspects[at % 4 + 1]: "x", aspects[at % 4 + 2]: "plain"}))
            codes = tuple((word, kind, tuple(sorted(gives.items()))) for word, kind, gives in codes)
            name, found = close_for((aspects, (), codes), ("0",))
            self.assertEqual(name, "row" if last == offs else "bar")
            self.assertIs(is_barred((aspects, (), codes), ("0",), found), name == "bar")
            self.assertIs(closes((aspects, (), codes), ("0",), found), name == "row")

    def test_bad_books_then_bad_rows(self):
        for deed, more in ((close_for, ()), (shortest_close, ()), (is_barred, (None,)), (is_barred, ((),))):
            for thing in bad_books():
                self.check_raised(BadBook, deed, thing, ("1",), *more)
                self.check_raised(BadBook, deed, thing, None, *more)
            for book in (BOOK, many_codes(BOOK, 16)):
                for thing in NO_ROWS:
                    self.assertIs(self.check_raised(BadRow, deed, book, thing, *more).given, thing)


class IsBarred(Given):
    def test_all_tuples_of_words_of_random_books(self):
        chance = random.Random(52)
        told = [0, 0]
        for _ in range(1200):
            book = closing_book(chance, 4)
            row = some_row(chance, book)
            bars = bars_of(book, row)
            for some in some_of(sorted(word for word, _, _ in book[2])):
                self.assertIs(is_barred(book, row, some), some in bars)
                told[some in bars] += 1
        self.assertGreater(min(told), 200)

    def test_words_that_do_not_ascend_or_stand_twice(self):
        bars = bars_of(BOOK, ("3",))
        self.assertEqual(bars, [BAR])
        for many in range(6):
            for row in itertools.product(BAR, repeat=many):
                self.assertIs(is_barred(BOOK, ("3",), row), row == BAR)

    def test_strange_words_and_things_of_other_kinds(self):
        self.assertIs(is_barred(BOOK, ("3",), BAR), True)
        for thing in odd_things() + list(NO_ROWS) + ["8", list(BAR), "4", BOOK[2][0]]:
            for some in (BAR + (thing,), (thing,) + BAR, BAR[:-1] + (thing,), ((thing,),), BAR + ("8",),
                         ("0",) + BAR, BAR + ("7",), BAR * 20000):
                self.assertIs(is_barred(BOOK, ("3",), some), False)
            if not isinstance(thing, tuple):
                self.assertIs(is_barred(BOOK, ("3",), thing), False)


class ShortestClose(Given):
    def check(self, book, row):
        told = shortest_close(book, row)
        sizes = [size_of(book, other) for other in all_rows(book) if row_closes(book, row, other)]
        if sizes == []:
            self.assertIsNone(told)
            self.assertEqual(close_for(book, row)[0], "bar")
            return None
        self.assertIs(told.__class__, tuple)
        self.assertTrue(row_closes(book, row, told))
        self.assertEqual(size_of(book, told), min(sizes))
        return len(told)

    def test_rows_and_none(self):
        for row, told in (((), ()), (("4", "7"), ()), (("1",), ("4",)), (("2",), ("4",)), (("3",), None),
                          (("6",), None), (("1", "2") * 30, ("4",))):
            self.assertEqual(shortest_close(BOOK, row), told)

    def test_sizes_count_more_than_words(self):
        offs = (("a", "plain"), ("b", "plain"))
        on = ("0", "k", (("a", "x"), ("b", "x")))
        book = (("a", "b"), (), (("1;1;1;1", "k", offs), ("1", "k", offs[:1]), ("2", "k", offs[1:]), on))
        self.assertEqual(sorted(shortest_close(book, ("0",))), ["1", "2"])
        book = (("a", "b"), (), (("1;1", "k", offs), ("1", "k", offs[:1]), ("2", "k", offs[1:]), on))
        self.assertEqual(shortest_close(book, ("0",)), ("1;1",))

    def test_random_rows_by_all_rows_of_unlike_words(self):
        chance = random.Random(53)
        told = {}
        for _ in range(1000):
            book = closing_book(chance, 5)
            many = self.check(book, some_row(chance, book, 3))
            told[many] = told.get(many, 0) + 1
        self.assertGreater(min(told[many] for many in (None, 0, 1, 2)), 5)

    def test_ten_codes_are_taken_and_eleven_refused(self):
        self.assertEqual(shortest_close(many_codes(BOOK, 10), ("1",)), ("4",))
        for many in range(11, 17):
            for row in ((), ("1",), ("3",)):
                self.assertEqual(self.check_raised(TooMany, shortest_close, many_codes(BOOK, many), row).most, 10)

    def test_ten_codes_that_are_all_needed(self):
        codes = tuple((str(at), "klmno"[at // 2], (("ab"[at % 2], "plain"),)) for at in range(10))
        on = tuple((str(10 + at), "klmno"[at], (("a", "x"), ("b", "x"))) for at in range(5))
        both = (("a", "b"), (), codes[:5] + on)
        self.assertIsNone(shortest_close(both, tuple(word for word, _, _ in on)))
        self.assertEqual(sorted(shortest_close(both, ("10", "11"))), ["0", "1", "2", "3"])
        chain = tuple((str(at), "k", (("abcdef"[at], "plain"), ("abcdef"[at + 1], "x"))) for at in range(5))
        book = (tuple("abcdef"), (), chain + (("5", "k", (("f", "plain"),)), ("6", "k", (("a", "x"),))))
        self.assertEqual(shortest_close(book, ("6",)), ("0", "1", "2", "3", "4", "5"))


class Calls(Given):
    def test_equal_calls_return_equal_results_and_change_nothing(self):
        row = ("1", "2")
        kept = copy.deepcopy((BOOK, row))
        for _ in range(2):
            for deed in (close_for, shortest_close):
                for opening in (row, ("3",)):
                    self.assertEqual(deed(BOOK, opening), deed(*copy.deepcopy((BOOK, opening))))
            self.assertIs(closes(BOOK, row, ("4",)), True)
            self.assertEqual((BOOK, row), kept)

    def test_a_call_that_raises_changes_nothing(self):
        for thing in (["1"], (["1"],), {"1": ["1"]}, [("1",)]):
            kept = copy.deepcopy(thing)
            for deed in (close_for, shortest_close):
                self.check_raised(BadRow, deed, BOOK, thing)
            self.check_raised(BadRow, closes, BOOK, (), thing)
            self.check_raised(BadRow, is_barred, BOOK, thing, thing)
            self.assertIs(is_barred(BOOK, ("3",), thing), False)
            self.assertEqual(thing, kept)


if __name__ == "__main__":
    unittest.main()
