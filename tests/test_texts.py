"""Tests of stylefall.texts: promise 18, and 1 to 3 for these functions."""

import itertools
import random
import re
import unittest

from stylefall.errors import BadBook, BadStream, BadText
from stylefall.texts import book_text, read_book, read_stream, stream_text
from tests.things import (
    Agreeable, Awkward, Given, bad_books, full_book, is_name, odd_things, random_book, random_stream, told_book)

NAME = "[a-z]{1,8}"
WORD = "[0-9](?:[0-9;]{0,6}[0-9])?"
STREAM_FORM = re.compile(f"(?:[a-z \n]|\\[{WORD}\\])*")
NAMES_FORM = f"{NAME}(?: {NAME})*"
BOOK_FORM = re.compile(f"{NAMES_FORM}\n(?:-|{NAMES_FORM})(?:\n{WORD} {NAME}(?: {NAME}={NAME})+)*")
# One of these makes a written form of each beginning of one.
STREAM_ENDS = ("", "]", "0]")
BOOK_ENDS = ("", "a", "\n-", "a\n-", "0 a a=a", " a a=a", "a a=a", " a=a", "a=a", "=a")
TOLD_TEXT = """ink weight
-
1 basic weight=bold
33 basic ink=yellow
38;5;208 many ink=orange
39 basic ink=plain
0 basic ink=plain weight=plain"""
STREAM = ("33", "38;5;208", "a", "39", "b")
WORDS = ("1", "0;1", "1;;;;;;2", "12345678", "1;2;3;45", "0", "00", "99999999")
WIDE_BOOK = (("a",), (), tuple((word, "k", (("a", "x"),)) for word in WORDS))
NO_STRINGS = [thing for thing in odd_things() if not isinstance(thing, str)] + [
    Awkward(), Agreeable("a"), ["a"], ("a",), b"a", bytearray(b"a"), b"", STREAM, told_book()]


def place_in(text, whole, ends):
    """The first place at which no written form goes on, that of the end if more has to come, None of a written form."""
    if whole.fullmatch(text):
        return None
    for place in range(len(text)):
        if not any(whole.fullmatch(text[:place + 1] + end) for end in ends):
            return place
    return len(text)


class StreamTexts(Given):
    def test_items_one_behind_the_other(self):
        for stream, text in ((STREAM, "[33][38;5;208]a[39]b"), ((), ""), (("a", " ", "\n", "z"), "a \nz"),
                             (("0", " ", "0"), "[0] [0]"), ((" ", " "), "  "), (("\n",), "\n")):
            self.assertEqual(stream_text(told_book(), stream), text)
            self.assertEqual(read_stream(told_book(), text), stream)

    def test_words_at_their_bounds(self):
        for word in WORDS:
            self.assertEqual(stream_text(WIDE_BOOK, (word, "a")), f"[{word}]a")
            self.assertEqual(read_stream(WIDE_BOOK, f"b[{word}]"), ("b", word))
        self.assertEqual(read_stream(WIDE_BOOK, "".join(f"[{word}]" for word in WORDS)), WORDS)

    def test_random_streams_are_read_back(self):
        chance = random.Random(60)
        for _ in range(300):
            book = random_book(chance)
            stream = random_stream(chance, book, 200)
            text = stream_text(book, stream)
            self.assertEqual(text, "".join(item if item in "ab \n" else "[" + item + "]" for item in stream))
            told = read_stream(book, text)
            self.assertEqual(told, stream)
            self.assertIs(told.__class__, tuple)

    def test_200_items_and_no_more(self):
        for text, many in (("a" * 200, 200), ("[1]" * 200, 200), ("a[1]" * 100, 200), ("", 0), (" " * 199, 199)):
            self.assertEqual(len(read_stream(WIDE_BOOK, text)), many)
        for text in ("a" * 201, "[1]" * 201, "a" * 20000, "[12345678]" * 2000, "a" * 200 + "[2]", "[2]" * 201,
                     "\n" * 201):
            self.assertIsNone(self.check_raised(BadStream, read_stream, WIDE_BOOK, text).place)

    def test_words_that_are_not_of_the_book(self):
        for text, place in (("[2]", 0), ("a[2]", 1), ("[1][1]a[2][3]", 3), ("[1][01]", 1), ("[1;1]", 0),
                            ("[87654321]", 0)):
            self.assertEqual(self.check_raised(BadStream, read_stream, WIDE_BOOK, text).place, place)
        self.assertEqual(self.check_raised(BadStream, read_stream, (("a",), (), ()), "ab[0]").place, 2)

    def test_bad_texts(self):
        for text, place in (
                ("[", 1), ("]", 0), ("a]", 1), ("[]", 1), ("[a]", 1), ("[1", 2), ("[1;", 3), ("[1;]", 3), ("[;1]", 1),
                ("[1a", 2), ("[1]]", 3), ("[[", 1), ("[1[", 2), ("a1", 1), ("1", 0), (";", 0), ("A", 0), ("a-", 1),
                ("[ 1]", 1), ("[1 ]", 2), ("[1\n]", 2), ("/", 0), ("[12345678", 9), ("[123456789]", 9),
                ("[1234567;", 8), ("[1234567;]", 8), ("[1234567;8]", 8), ("[123456;8]", None), ("[123456;", 8),
                ("[123456;;", 8), ("[123456;]", 8), ("[1;;;;;;;", 8), ("a" * 300 + "A", 300), ("[1]" * 300 + "[", 901),
                ("[9][A]", 4),
                ("[9", 2), ("\t", 0), ("a~", 1), ("@", 0), ("`", 0), ("{", 0), (":", 0), ("[:]", 1), ("[1/]", 2)):
            self.assertEqual(place_in(text, STREAM_FORM, STREAM_ENDS), place)
            if place is not None:
                self.assertEqual(self.check_raised(BadText, read_stream, WIDE_BOOK, text).place, place)

    def check_reading(self, text):
        """Reads a text of a book that has no words, so that a form with one is no stream."""
        place = place_in(text, STREAM_FORM, STREAM_ENDS)
        if place is not None:
            self.assertEqual(self.check_raised(BadText, read_stream, (("a",), (), ()), text).place, place)
        elif "[" in text:
            place = re.sub(f"\\[{WORD}\\]", "0", text).index("0")
            self.assertEqual(self.check_raised(BadStream, read_stream, (("a",), (), ()), text).place, place)
        else:
            self.assertEqual(read_stream((("a",), (), ()), text), tuple(text))
        return place is None

    def test_all_short_texts(self):
        for many in range(6):
            for signs in itertools.product("a1;[] ", repeat=many):
                self.check_reading("".join(signs))

    def test_words_of_all_kinds_of_lengths(self):
        chance = random.Random(61)
        for _ in range(5000):
            word = "".join(chance.choice("01;") for _ in range(chance.randint(0, 10)))
            self.check_reading("a[" + word + chance.choice(["]", "]", "]b", "", "a", "[", " ", "\n"]))

    def test_what_is_no_string_and_the_order_of_the_errors(self):
        for thing in NO_STRINGS:
            self.assertIsNone(self.check_raised(BadText, read_stream, told_book(), thing).place)
        for thing in bad_books():
            for text in ("", "a", "A", None, thing):
                self.check_raised(BadBook, read_stream, thing, text)
                self.check_raised(BadBook, stream_text, thing, text)
            self.check_raised(BadBook, book_text, thing)
        self.assertEqual(self.check_raised(BadText, read_stream, WIDE_BOOK, "a" * 201 + "A").place, 201)
        self.assertEqual(self.check_raised(BadText, read_stream, WIDE_BOOK, "[2][").place, 4)
        for thing, place in ((None, None), (["a"], None), ("a", None), (("a",) * 201, None), (("a", "2"), 1),
                             (("a", "0", None), 2), ((Agreeable("0"),), 0), (Awkward(), None)):
            self.assertEqual(self.check_raised(BadStream, stream_text, told_book(), thing).place, place)


class BookTexts(Given):
    def test_the_example_of_the_document(self):
        self.assertEqual(book_text(told_book()), TOLD_TEXT)
        self.assertEqual(read_book(TOLD_TEXT), told_book())

    def test_small_books_and_full_ones(self):
        for book, text in (((("a",), (), ()), "a\n-"), ((("a",), ("a",), ()), "a\na"),
                           ((("a", "b"), ("a", "b"), ()), "a b\na b"), ((("a", "b"), ("b",), ()), "a b\nb"),
                           ((("a",), (), (("0;0", "k", (("a", "x"),)),)), "a\n-\n0;0 k a=x")):
            self.assertEqual(book_text(book), text)
            self.assertEqual(read_book(text), book)
        self.assertEqual(read_book(book_text(full_book())), full_book())
        self.assertEqual(read_book(book_text(WIDE_BOOK)), WIDE_BOOK)
        long = (("abcdefgh", "zzzzzzzz"), ("zzzzzzzz",), (
            ("1;;;;;;2", "kindkind", (("abcdefgh", "xxxxxxxx"), ("zzzzzzzz", "yyyyyyyy"))),))
        self.assertEqual(read_book(book_text(long)), long)

    def test_random_books_are_read_back(self):
        chance = random.Random(62)
        for _ in range(300):
            book = random_book(chance, aspects=("a", "bb", "c", "d"), codes=8, kinds=("k", "ll", "m"))
            text = book_text(book)
            self.assertIsNotNone(BOOK_FORM.fullmatch(text))
            self.assertEqual(len(text.split("\n")), 2 + len(book[2]))
            self.assertEqual(read_book(text), book)

    def test_all_is_of_tuples(self):
        book = read_book(TOLD_TEXT)
        pairs = [pair for code in book[2] for pair in code[2]]
        things = [book, *book, *book[2], *[code[2] for code in book[2]], *pairs]
        self.assertEqual({thing.__class__ for thing in things}, {tuple})

    def test_bad_texts(self):
        for text, place in (
                ("", 0), ("a", 1), ("a\n", 2), ("a\n-", None), ("a\n-\n", 4), ("a\n--", 3), ("a\n-a", 3), ("a\n- a", 3),
                ("a\na-", 3), ("\n-", 0), ("-", 0), (" a", 0), ("a ", 2), ("a  b", 2), ("a \n", 2), ("a\n\n", 2),
                ("a\n ", 2), ("a\na \n", 4), ("A", 0), ("a1", 1), ("abcdefgh", 8), ("abcdefghi", 8), ("abcdefgh i", 10),
                ("a\n-\n1", 5), ("a\n-\n1 ", 6), ("a\n-\n1 k", 7), ("a\n-\n1 k\n", 7), ("a\n-\n1 k ", 8),
                ("a\n-\n1 k a", 9), ("a\n-\n1 k a ", 9), ("a\n-\n1 k a=", 10), ("a\n-\n1 k a=x", None),
                ("a\n-\n1 k a=x ", 12), ("a\n-\n1 k a=x\n", 12), ("a\n-\n1 k a=x\n\n", 12), ("a\n-\n1 k a=x=", 11),
                ("a\n-\n1 k a=x  ", 12), ("a\n-\n1 k =x", 8), ("a\n-\n1  k", 6), ("a\n-\na k", 4), ("a\n-\n; k", 4),
                ("a\n-\n1; k", 6), ("a\n-\n1234567;", 11), ("a\n-\n123456789", 12), ("a\n-\n1 kkkkkkkkk", 14),
                ("a\n-\n1 k aaaaaaaaa", 16), ("a\n-\n1 k a=xxxxxxxxx", 18), ("a\n-\n1=", 5), ("a\n-\n1 k=", 7),
                ("a=", 1), ("a\n-\n1 k a=1", 10), ("a\n-\n1 k 1", 8), ("a\n-\n1 1", 6), ("a\n-\n-", 4),
                ("a\n-\n1 -", 6), ("\t", 0)):
            self.assertEqual(place_in(text, BOOK_FORM, BOOK_ENDS), place)
            if place is not None:
                self.assertEqual(self.check_raised(BadText, read_book, text).place, place)

    def check_reading(self, text):
        """What is no written form is refused as such; else just a written form of a book is one of this book."""
        place = place_in(text, BOOK_FORM, BOOK_ENDS)
        if place is not None:
            self.assertEqual(self.check_raised(BadText, read_book, text).place, place)
            return False
        try:
            self.assertEqual(book_text(read_book(text)), text)
        except BadBook:
            return None
        return True

    def test_texts_that_are_changed_at_one_place(self):
        texts = [TOLD_TEXT, "a bb\na bb\n1;2 k a=x bb=y\n3 l bb=z", book_text(WIDE_BOOK)]
        told = {}
        for text in texts:
            for place in range(len(text) + 1):
                self.check_reading(text[:place])
                for sign in ("a", "1", ";", " ", "\n", "=", "-", "A", "", "aaaaaaaa", "11111111"):
                    for changed in (text[:place] + sign + text[place:], text[:place] + sign + text[place + 1:]):
                        name = self.check_reading(changed)
                        told[name] = told.get(name, 0) + 1
        self.assertGreater(min(told[name] for name in (True, False, None)), 50)

    def test_forms_of_what_is_no_book(self):
        many = "\n".join(f"{at} k a=x" for at in range(17))
        for text, place in (
                ("b a\n-", "aspects"), ("a a\n-", "aspects"), ("a b c d e f g\n-", "aspects"), ("a\nb", "shown"),
                ("a b\nb a", "shown"), ("a b\na a", "shown"), ("a\n-\n1 k b=x", 0), ("a\n-\n1 k a=x a=y", 0),
                ("a b\n-\n1 k b=x a=x", 0), ("a\n-\n1 k a=x\n1 k a=x", 1), ("a\n-\n" + many, "codes"),
                ("a\n-\n" + "\n".join(f"{at} {kind} a=x" for at, kind in enumerate("klmnopq")), 6),
                (" ".join("a" for _ in range(9000)) + "\n-", "aspects")):
            self.assertIsNone(place_in(text, BOOK_FORM, BOOK_ENDS))
            self.assertEqual(self.check_raised(BadBook, read_book, text).place, place)
        self.assertEqual(self.check_raised(BadText, read_book, "b a\n-\n").place, 6)

    def test_sixteen_codes_are_read(self):
        text = "a\n-\n" + "\n".join(f"{at} k a=x" for at in range(16))
        self.assertEqual(len(read_book(text)[2]), 16)
        self.assertEqual(book_text(read_book(text)), text)

    def test_what_is_no_string(self):
        for thing in NO_STRINGS:
            self.assertIsNone(self.check_raised(BadText, read_book, thing).place)
        for thing in odd_things():
            if isinstance(thing, str) and not is_name(thing):
                self.check_raised(BadText, read_book, thing)


class Calls(Given):
    def test_equal_calls_return_equal_results(self):
        for _ in range(2):
            self.assertEqual(read_book("".join(list(TOLD_TEXT))), told_book())
            self.assertEqual(book_text(told_book()), TOLD_TEXT)
            self.assertEqual(read_stream(told_book(), "[33]a"), ("33", "a"))
            self.assertEqual(stream_text(told_book(), ("33", "a")), "[33]a")


if __name__ == "__main__":
    unittest.main()
