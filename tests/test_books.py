"""Tests of stylefall.books: promises 1, 2 and 3."""

import copy
import random
import re
import unittest

from stylefall.books import code_of, kinds_of, need_book, need_stream, signs_of
from stylefall.errors import BadBook, BadQuestion, BadStream
from tests.things import Agreeable, Awkward, deep_in, full_book, is_name, odd_things, raised_by, told_book

GOOD = object()
LONG_NAME = "abcdefgh"
LONG_WORD = "1;;45;78"


def is_word(thing):
    return isinstance(thing, str) and re.fullmatch("(?=.{1,8}$)[0-9]([0-9;]*[0-9])?", thing) is not None


def is_tuple_of(thing, check):
    return isinstance(thing, tuple) and len(thing) < 1000 and all(map(check, thing))


def ascends(names):
    return list(names) == sorted(set(names))


def is_gift(thing):
    return is_tuple_of(thing, is_name) and len(thing) == 2


def is_code(thing, aspects):
    if not isinstance(thing, tuple) or len(thing) != 3 or not is_word(thing[0]) or not is_name(thing[1]):
        return False
    if not is_tuple_of(thing[2], is_gift) or thing[2] == ():
        return False
    given = [aspect for aspect, _ in thing[2]]
    return ascends(given) and set(given) <= set(aspects)


def place_in_book(thing):
    """What need_book has to tell, straight from the document: GOOD or the place."""
    if not isinstance(thing, tuple) or len(thing) != 3:
        return None
    aspects, shown, codes = thing
    if not is_tuple_of(aspects, is_name) or not ascends(aspects) or not 1 <= len(aspects) <= 6:
        return "aspects"
    if not is_tuple_of(shown, is_name) or not ascends(shown) or not set(shown) <= set(aspects):
        return "shown"
    if not isinstance(codes, tuple) or len(codes) > 16:
        return "codes"
    for number, code in enumerate(codes):
        if not is_code(code, aspects):
            return number
        if code[0] in [ahead[0] for ahead in codes[:number]]:
            return number
        if len({ahead[1] for ahead in codes[:number + 1]}) > 6:
            return number
    return GOOD


def place_told(deed, error, *told):
    """GOOD if a call returns its last argument itself, else the place of its error."""
    raised = raised_by(deed, *told)
    if raised is not None:
        if raised.__class__ is not error:
            raise AssertionError(f"{error.__name__} is due") from raised
        return raised.place
    if deed(*told) is not told[-1]:
        raise AssertionError("the very thing is due")
    return GOOD


def put(row, place, thing):
    return row[:place] + (thing,) + row[place + 1:]


def code(word="1", kind="k", gives=(("a", "x"),)):
    return (word, kind, gives)


def book_with(*codes):
    return (("a", "b", "c"), ("b",), codes)


GOOD_CODES = (code("7"), code("8;1", "l", (("a", "x"), ("c", "y"))), code("9", "m", (("b", "x"),)))


class NeedBook(unittest.TestCase):
    def check(self, thing, place):
        told = place_told(need_book, BadBook, thing)
        self.assertEqual(told, place)
        self.assertIs(told.__class__, place.__class__)

    def check_code(self, thing):
        """A fault of a code is told by its number, also behind good codes and ahead of others."""
        self.check(book_with(thing), 0)
        self.check(book_with(*GOOD_CODES, thing), 3)
        self.check(book_with(*GOOD_CODES, thing, None, thing, *GOOD_CODES), 3)

    def test_good_books(self):
        self.check(told_book(), GOOD)
        self.check(full_book(), GOOD)
        self.check((("a",), (), ()), GOOD)
        self.check((("a",), ("a",), ()), GOOD)
        self.check(book_with(*GOOD_CODES), GOOD)

    def test_one_to_six_aspects(self):
        for many in range(1, 7):
            self.check((tuple("abcdef"[:many]), (), ()), GOOD)
        self.check(((), (), ()), "aspects")
        self.check((tuple("abcdefg"), (), ()), "aspects")
        self.check((tuple("abcdefgh"), (), ()), "aspects")

    def test_shown_is_none_some_or_all(self):
        for shown in ((), ("a",), ("b",), ("c",), ("a", "c"), ("b", "c"), ("a", "b", "c")):
            self.check((("a", "b", "c"), shown, ()), GOOD)

    def test_no_codes_to_sixteen(self):
        for many in range(17):
            self.check(book_with(*[code(str(n)) for n in range(many)]), GOOD)
        self.check(book_with(*[code(str(n)) for n in range(17)]), "codes")
        self.check(book_with(*[None] * 17), "codes")
        self.check(book_with(*[None] * 16), 0)

    def test_one_kind_to_six(self):
        for many in range(1, 7):
            codes = [code(str(n), "klmnop"[n % many]) for n in range(16)]
            self.check(book_with(*codes), GOOD)

    def test_a_seventh_kind(self):
        codes = [code(str(n), "klmnopqr"[n]) for n in range(8)]
        self.check(book_with(*codes[:6]), GOOD)
        self.check(book_with(*codes[:7]), 6)
        self.check(book_with(*codes), 6)
        again = [code("10", "k"), code("11", "p")]
        self.check(book_with(*codes[:6], *again), GOOD)
        self.check(book_with(*codes[:6], *again, codes[6]), 8)

    def test_a_seventh_kind_and_another_fault(self):
        codes = [code(str(n), "klmnopq"[n]) for n in range(7)]
        self.check(book_with(*codes, None), 6)
        self.check(book_with(*codes[:3], None, *codes[3:]), 3)
        self.check(book_with(*codes[:6], code("0", "k"), codes[6]), 6)

    def test_words(self):
        for word in ("0", "1", "9", "00", "1;1", "1;;1", LONG_WORD, "38;5;208", "12345678"):
            self.check(book_with(code(word)), GOOD)
        for word in ("", ";", ";;", ";1", "1;", "1;;", "123456789", "1;3;5;7;9", "1a", "a", "1 ", " 1", "1\n",
                     "1:1", "1,1", "-1", "+1", "1/1", "\u0663", "1\u0663", "\u00b2", "\uff11", "1\x00"):
            self.check_code(code(word))

    def test_names(self):
        for name in ("a", "z", "az", LONG_NAME, "zzzzzzzz"):
            self.check(((name,), (name,), (code("1", name, ((name, name),)),)), GOOD)
        for name in ("", "abcdefghi", "A", "aB", "a1", "1", "a ", " a", " ", "a\n", "a-b", "`", "{", "\u00e9", "a\x00"):
            self.check(((name,), (), ()), "aspects")
            self.check((("a", name), (), ()), "aspects")
            self.check((("a", "b"), (name,), ()), "shown")
            self.check_code(code(kind=name))
            self.check_code(code(gives=((name, "x"),)))
            self.check_code(code(gives=(("a", name),)))

    def test_each_sign_in_a_word_and_in_a_name(self):
        for sign in map(chr, range(0x250)):
            for book in (book_with(code(f"1{sign}2")), book_with(code(sign)), book_with(code(kind=f"k{sign}")),
                         book_with(code(gives=(("a", sign),))), ((sign,), (), ()), ((f"a{sign}b",), (), ())):
                self.check(book, place_in_book(book))

    def test_no_tuple_of_three(self):
        book = told_book()
        self.check(book[:2], None)
        self.check(book + ((),), None)
        self.check((), None)
        self.check(list(book), None)
        self.check(("", "", "", ""), None)

    def test_aspects_that_are_not_as_told(self):
        for aspects in (("b", "a"), ("a", "a"), ("a", "b", "b"), ("a", "c", "b"), ("aa", "a"), ["a", "b"],
                        "ab", {"a": 0}, {"a"}, ("a", None), (("a",),), ("a", b"b"), None, True):
            self.check((aspects, (), ()), "aspects")
            self.check((aspects, aspects, aspects), "aspects")
            self.check((aspects, None, None), "aspects")

    def test_shown_that_is_not_as_told(self):
        for shown in (("d",), ("a", "d"), ("b", "a"), ("a", "a"), ("aa",), [], ["a"], "", "a", "abc", {}, set(),
                      None, False, 0, (None,), (("a",),), (b"a",), ("a", "b", "c", "c"), ("a", "b", "c", "d")):
            self.check((("a", "b", "c"), shown, ()), "shown")
            self.check((("a", "b", "c"), shown, None), "shown")
            self.check((("a", "b", "c"), shown, (None,)), "shown")

    def test_codes_that_are_no_tuple(self):
        for codes in ([], [code()], {}, set(), "", "1", b"", None, True, 0):
            self.check((("a",), (), codes), "codes")

    def test_codes_that_are_no_tuples_of_three(self):
        for thing in (code()[:2], code() + (0,), list(code()), (), "1ka", code, {}, None, 1):
            self.check_code(thing)

    def test_gives_that_is_not_as_told(self):
        for gives in ((), [], [("a", "x")], (["a", "x"],), ("a", "x"), ("ax",), (("a",),), (("a", "x", "y"),), "ax",
                      (("b", "x"), ("a", "x")), (("a", "x"), ("a", "x")), (("a", "x"), ("a", "y")),
                      (("a", "x"), ("c", "x"), ("b", "x")), (("d", "x"),), (("a", "x"), ("d", "x")),
                      (("a", 1),), (("a", None),), (("a", True),), (("a", ("x",)),), ((1, "x"),), {"a": "x"},
                      (("a", "x"), None), (("a", "x"), ())):
            self.check_code(code(gives=gives))

    def test_all_aspects_may_be_given(self):
        self.check(book_with(code(gives=(("a", "x"), ("b", "x"), ("c", "x")))), GOOD)
        many = tuple((aspect, "x") for aspect in "abcdefg")
        self.check((tuple("abcdef"), (), (code(gives=many),)), 0)
        self.check((tuple("abcdef"), (), (code(gives=many[:6]),)), GOOD)

    def test_the_word_of_a_code_ahead(self):
        self.check(book_with(*GOOD_CODES, code("8;1", "q", (("b", "z"),))), 3)
        self.check(book_with(*GOOD_CODES, GOOD_CODES[0]), 3)
        self.check(book_with(*GOOD_CODES, code("07"), code("7")), 4)
        self.check(book_with(code("1"), code("1"), None), 1)

    def test_two_faults_at_once(self):
        self.check(book_with(code(""), code("1", "")), 0)
        self.check(book_with(code("1"), code("1", ""), code("1")), 1)
        self.check(book_with(code("1"), code("2", "k", ()), code("1")), 1)
        self.check((("b", "a"), ("c",), ()), "aspects")
        self.check((("a", "b"), ("c",), (None,) * 17), "shown")

    def test_things_of_all_kinds_in_all_places(self):
        for thing in odd_things():
            self.check(thing, place_in_book(thing))
            book = book_with(*GOOD_CODES)
            for place in range(3):
                wrong = put(book, place, thing)
                self.check(wrong, place_in_book(wrong))
            for wrong in self.codes_with(thing):
                self.check(book_with(wrong), place_in_book(book_with(wrong)))
                self.check(book_with(*GOOD_CODES, wrong), place_in_book(book_with(*GOOD_CODES, wrong)))

    def codes_with(self, thing):
        return (thing, code(thing), code(kind=thing), code(gives=thing), code(gives=(thing,)),
                code(gives=((thing, "x"),)), code(gives=(("a", thing),)), code(gives=(("a", "x"), thing)))

    def test_aspects_with_things_of_all_kinds(self):
        for thing in odd_things():
            for book in (((thing,), (), ()), (("A", thing), (), ()), (("aa", thing), (), ()),
                         (("a", "b"), (thing,), ()), (("a", "b"), ("a", thing), ())):
                self.check(book, place_in_book(book))

    def test_random_books(self):
        chance = random.Random(20)
        pieces = ["a", "b", "c", "d", "k", "1", "2", "1;2", "", None, (), ("a",), ("a", "b"), ("a", "x"), (("a", "x"),),
                  [], True, 3, "1;", (("a", "x"), ("b", "y")), (("b", "x"), ("a", "y"))]
        told = {}
        for _ in range(20000):
            book = self.random_book(chance)
            for _ in range(chance.choice((0, 1, 1, 2, 3))):
                book = self.spoiled(chance, book, chance.choice(pieces))
            place = place_in_book(book)
            self.check(book, place)
            told[place] = told.get(place, 0) + 1
        for place in (GOOD, None, "aspects", "shown", "codes", 0, 3, 6, 10):
            self.assertGreater(told.get(place, 0), 10, place)

    def random_book(self, chance):
        aspects = tuple(sorted(chance.sample("abcdefg", chance.randint(1, 7))))
        shown = tuple(sorted(chance.sample(aspects, chance.randint(0, len(aspects)))))
        words = chance.choices(("0", "1", "2"), k=40) if chance.random() < 0.1 else list(map(str, range(40)))
        kinds = "klmnopqr"[:chance.randint(1, 8)]
        codes = []
        for word in words[:chance.randint(0, 17)]:
            given = sorted(chance.sample(aspects, chance.randint(1, len(aspects))))
            codes.append((word, chance.choice(kinds), tuple((aspect, chance.choice("xyz")) for aspect in given)))
        return (aspects, shown, tuple(codes))

    def spoiled(self, chance, thing, piece):
        """The thing with something in it, at any depth, changed for the piece, left out or doubled."""
        if not isinstance(thing, tuple) or thing == () or chance.random() < 0.05:
            return piece
        place = chance.randrange(len(thing))
        deed = chance.randrange(12)
        if deed == 0:
            return thing[:place] + thing[place + 1:]
        if deed == 1:
            return thing[:place + 1] + thing[place:]
        if deed == 2:
            return thing[::-1]
        return put(thing, place, self.spoiled(chance, thing[place], piece))


class KindsAndCodes(unittest.TestCase):
    def test_kinds_ascend_and_come_once(self):
        self.assertEqual(kinds_of(told_book()), ("basic", "many"))
        codes = [code(str(n), kind) for n, kind in enumerate(("z", "a", "m", "z", "aa", "b", "a"))]
        self.assertEqual(kinds_of(book_with(*codes)), ("a", "aa", "b", "m", "z"))
        self.assertEqual(kinds_of(book_with()), ())
        self.assertEqual(kinds_of(full_book()), ("k", "l", "m", "n", "o", "pppppppp"))

    def test_code_of_each_word(self):
        for book in (told_book(), full_book()):
            for one in book[2]:
                self.assertEqual(code_of(book, one[0]), one)
                self.assertEqual(code_of(book, "".join(list(one[0]))), one)

    def test_code_of_what_is_no_word(self):
        for book in (told_book(), book_with(), full_book()):
            words = [one[0] for one in book[2]]
            for thing in odd_things() + ["33 ", "3", "38", "38;5", "basic", "ink", book, book[2], 33, (33,), ["33"]]:
                if isinstance(thing, str) and thing in words:
                    continue
                error = raised_by(code_of, book, thing)
                self.assertIs(error.__class__, BadQuestion)
                self.assertIsInstance(str(error), str)

    def test_bad_books_come_first(self):
        for thing in odd_things():
            for deed, more in ((kinds_of, ()), (code_of, ("1",)), (code_of, (None,)), (need_stream, ((),)),
                               (need_stream, (None,)), (signs_of, ((),)), (signs_of, (None,))):
                error = raised_by(deed, thing, *more)
                self.assertIs(error.__class__, BadBook)
                self.assertEqual(error.place, place_in_book(thing))
        for deed, more in ((kinds_of, ()), (code_of, (None,)), (need_stream, (None,)), (signs_of, (None,))):
            self.assertEqual(raised_by(deed, book_with(*GOOD_CODES, None), *more).place, 3)
            self.assertEqual(raised_by(deed, (("a",), ("b",), ()), *more).place, "shown")


class Streams(unittest.TestCase):
    def check(self, thing, place, book=None):
        told = place_told(need_stream, BadStream, book or told_book(), thing)
        self.assertEqual(told, place)
        self.assertIs(told.__class__, place.__class__)
        if place is not GOOD:
            error = raised_by(signs_of, book or told_book(), thing)
            self.assertIs(error.__class__, BadStream)
            self.assertEqual(error.place, place)

    def test_good_streams(self):
        self.check(("33", "38;5;208", "a", "39", "b"), GOOD)
        self.check((), GOOD)
        self.check((" ", "\n", "a", "z", "0", "0", "\n", " "), GOOD)
        self.check(tuple("abcdefghijklmnopqrstuvwxyz"), GOOD)
        self.check(("a", " ", "\n"), GOOD, book_with())

    def test_two_hundred_items(self):
        for item in ("a", " ", "\n", "38;5;208"):
            self.check((item,) * 200, GOOD)
            self.check((item,) * 201, None)
        self.check((None,) * 201, None)
        self.check(("a",) * 199 + (None,), 199)
        self.check((None,) * 200, 0)

    def test_words_that_the_book_has_not(self):
        for word in ("2", "3", "38", "38;5", "333", "00", "39;", "5;208"):
            self.check((word,), 0)
            self.check(("33", "a", word, "b"), 2)
        self.check(("0",), 0, book_with())
        self.check(("7", "8;1", "33"), 2, book_with(*GOOD_CODES))

    def test_strings_that_are_no_items(self):
        for item in ("", "ab", "A", "  ", "\n\n", " \n", "a ", "\t", "\r", "/", "basic", "ink", "-", ".", "`", "{",
                     "\u00e9", "\u00aa", "\u2028", "\u00a0", "\x00", ";", "33 "):
            self.check((item,), 0)
            self.check(("a", "0", " ", item), 3)

    def test_each_sign_as_an_item(self):
        for sign in map(chr, range(0x250)):
            self.check((sign,), GOOD if re.fullmatch("[a-z \n01]", sign) else 0)

    def test_the_first_fault_is_told(self):
        self.check(("a", None, "0", "2", ""), 1)
        self.check(("a", "0", "2", None), 2)

    def test_no_tuples(self):
        for thing in (["a"], "a", "abc", "", {}, {"a": 0}, {"a"}, b"a", None, True, 0, range(0), iter(("a",))):
            self.check(thing, None)

    def test_things_of_all_kinds(self):
        words = [one[0] for one in told_book()[2]]
        for thing in odd_things():
            good = isinstance(thing, str) and (re.fullmatch("[a-z \n]", thing) is not None or thing in words)
            self.check((thing,), GOOD if good else 0)
            self.check(("33", "a", " ", thing, "b"), GOOD if good else 3)
            if not isinstance(thing, tuple):
                self.check(thing, None)

    def test_tuples_deep_in_one_another(self):
        self.check((("a",),), 0)
        self.check(("a", ()), 1)
        self.check(("a", deep_in(tuple, "b", 50000)), 1)
        self.check((Agreeable("33"), Awkward()), 0)

    def test_signs_leave_words_aside(self):
        book = told_book()
        self.assertEqual(signs_of(book, ("33", "38;5;208", "a", "39", "b")), ("a", "b"))
        self.assertEqual(signs_of(book, ("0", "b", "1", " ", "\n", "33", "b", "0")), ("b", " ", "\n", "b"))
        self.assertEqual(signs_of(book, ()), ())
        self.assertEqual(signs_of(book, ("33", "0")), ())
        self.assertEqual(signs_of(book, ("a", "0") * 100), ("a",) * 100)
        self.assertEqual(signs_of(full_book(), tuple("a1b2 3\n")), ("a", "b", " ", "\n"))


class Calls(unittest.TestCase):
    def test_equal_calls_return_equal_results_and_change_nothing(self):
        book, stream = told_book(), ("33", "a", " ", "0", "\n")
        kept = copy.deepcopy((book, stream))
        for _ in range(2):
            self.assertIs(need_book(book), book)
            self.assertIs(need_stream(book, stream), stream)
            self.assertEqual(kinds_of(book), ("basic", "many"))
            self.assertEqual(code_of(book, "33"), ("33", "basic", (("ink", "yellow"),)))
            self.assertEqual(signs_of(book, stream), ("a", " ", "\n"))
            self.assertEqual((book, stream), kept)

    def test_a_call_that_raises_changes_nothing(self):
        inner = ["a"]
        table = {"a": inner}
        for thing in ((inner, table, inner), (("a",), inner, table), (("a",), (), (inner, table)), inner, table):
            self.assertIsInstance(raised_by(need_book, thing), BadBook)
        for thing in (inner, table, ("a", inner), ("a", table)):
            self.assertIsInstance(raised_by(need_stream, told_book(), thing), BadStream)
            self.assertIsInstance(raised_by(code_of, told_book(), thing), BadQuestion)
        self.assertEqual((inner, table), (["a"], {"a": ["a"]}))
        self.assertEqual(kinds_of(told_book()), ("basic", "many"))

    def test_the_words_of_one_book_do_not_stay_for_another_one(self):
        self.assertIsNone(raised_by(need_stream, told_book(), ("33",)))
        self.assertEqual(raised_by(need_stream, book_with(), ("33",)).place, 0)
        self.assertIsInstance(raised_by(code_of, book_with(), "33"), BadQuestion)


if __name__ == "__main__":
    unittest.main()
