"""Tests of stylefall.rows: promises 12 to 14, and 1, 2, 5 and 6 for these functions."""

import copy
import itertools
import random
import unittest

from stylefall.errors import BadBook, BadQuestion, BadRow, BadWishes, TooMany
from stylefall.rows import front, is_bar, meets, need_row, need_wishes, row_for, shortest_row, size_of
from tests.things import (
    Agreeable, Awkward, Given, all_rows, bad_books, chain_of, deep_in, form_of, full_book, is_chain, many_codes,
    odd_things, raised_by, random_book, some_of, told_book)

BOOK = (("ink", "weight"), ("ink",), (
    ("1", "k", (("ink", "red"),)), ("2", "l", (("ink", "red"),)), ("3", "l", (("ink", "blue"), ("weight", "bold"))),
    ("4", "k", (("weight", "bold"),)), ("5;5", "m", (("ink", "plain"),))))
WISH = (("ink", (("k", "red"), ("l", "blue"))),)
LONG = tuple((kind, "v") for kind in "lkjihgfedcba")
NO_ROWS = (
    None, True, False, 0, 1, "", "1", "12", b"1", [], ["1"], {}, {"1": "1"}, ("6",), ("1", "6"), ("6", "1"), ("a",),
    (" ",), ("\n",), ("1", "a"), ("5",), ("5;",), ("5;55",), (" 1",), (1,), (True,), (b"1",), (None,), (("1",),),
    (["1"],), ("1", None), (Agreeable("1"),), (Awkward(),), Agreeable("1"), Awkward(), ("1",) * 61, ("1",) * 100000,
    ("",), iter(("1",)), 10 ** 5000)
NO_WISHES = (
    None, True, 0, "", "ink", b"", [], list(WISH), {}, dict(WISH), ("ink", (("k", "red"),)), (("ink",),),
    (("ink", ()),), (("ink", (), ()),), (("ink", None),), (("ink", [("k", "red")]),), (("ink", ("k", "red")),),
    (["ink", (("k", "red"),)],),
    (("paper", (("k", "red"),)),), (("Ink", (("k", "red"),)),), ((None, (("k", "red"),)),), ((1, (("k", "red"),)),),
    (("ink", (("k", "red"), ("k", "red"))),), (("ink", (("k", "red"), ("k", "blue"))),), (("ink", (("K", "red"),)),),
    (("ink", LONG + (("m", "v"),)),), WISH + WISH, (("weight", (("k", "x"),)),) + WISH, WISH + (None,),
    WISH + (("weight", ()),), WISH + (("weight", (("k", "x"),)), ("z", (("k", "x"),))), WISH * 100000,
    (Awkward(),), (Agreeable(),), Awkward(), Agreeable(), (("ink", Awkward()),), ((Agreeable("ink"), (("k", "x"),)),),
    (deep_in(tuple, "a", 50000),), (("ink", deep_in(tuple, "a", 50000)),), WISH + (("inks", (("k", "x"),)),))
NOT_FREE = (
    None, True, False, 0, "", "weight", b"", [], ["weight"], {}, {"weight": "x"}, ("ink",), ("ink", "weight"),
    ("paper",), ("weight", "weight"), ("weight", "zebra"), ("Weight",), (None,), (1,), (("weight",),),
    (Agreeable("weight"),), (Awkward(),), Agreeable(), Awkward(), ("weight",) * 100000, deep_in(tuple, "a", 50000),
    object(), 10 ** 5000)


def chains_at_end(book, row):
    return {aspect: chain_of(book, row, len(row), aspect) for aspect in book[0]}


def row_meets(book, wishes, row, free):
    """Whether a row meets wishes, by the words of the document."""
    chains = chains_at_end(book, row)
    wished = dict(wishes)
    for aspect in book[0]:
        if aspect in wished and form_of(chains[aspect]) != form_of(wished[aspect]):
            return False
        if aspect not in wished and aspect not in free and chains[aspect] != ():
            return False
    return True


def code_is_barred(book, wishes, free, code, settled):
    """Whether a code gives some aspect as the second half of what a bar is tells."""
    _, kind, gives = code
    for aspect, value in gives:
        if aspect in free or (aspect, kind) in settled:
            continue
        chain = dict(wishes).get(aspect, ())
        if (kind, value) not in chain:
            return True
        ahead = chain[:chain.index((kind, value))]
        if any(worth != value and (aspect, other) not in settled for other, worth in ahead):
            return True
    return False


def bars_of(book, wishes, free):
    """All bars of wishes, by the words of the document."""
    bars = []
    for some in some_of(sorted(word for word, _, _ in book[2])):
        settled = {(aspect, kind) for word, kind, gives in book[2] if word in some for aspect, _ in gives}
        open_pairs = [(aspect, kind) for aspect, chain in wishes for kind, _ in chain if (aspect, kind) not in settled]
        others = [code for code in book[2] if code[0] not in some]
        if open_pairs and all(code_is_barred(book, wishes, free, code, settled) for code in others):
            bars.append(some)
    return bars


def size(row):
    return len("".join(row)) + 2 * len(row)


def some_wishes(chance, book, kinds, values):
    """Wishes that may be met or not, and aspects that are left free."""
    row = chance.sample([code[0] for code in book[2]], chance.randint(0, len(book[2])))
    chains = {aspect: chain for aspect, chain in chains_at_end(book, row).items() if chain}
    if chance.random() < 0.6:
        for aspect in chance.sample(book[0], chance.randint(0, len(book[0]))):
            order = chance.sample(kinds, chance.randint(1, len(kinds)))
            chains[aspect] = tuple((kind, chance.choice(values)) for kind in order)
    for aspect in list(chains):
        if chance.random() < 0.3:
            del chains[aspect]
    others = [aspect for aspect in book[0] if aspect not in chains]
    return tuple(sorted(chains.items())), tuple(sorted(chance.sample(others, chance.randint(0, len(others)))))


def are_bar(some):
    """Whether words are a bar of WISH; there is none with things in it that are no words."""
    return all(isinstance(word, str) for word in some) and some in bars_of(BOOK, WISH, ())


class NeedRow(Given):
    def test_rows(self):
        for row in ((), ("1",), ("1", "1"), ("5;5", "4", "3", "2", "1"), ("3",) * 60):
            self.assertIs(need_row(BOOK, row), row)
        for word, _, _ in full_book()[2]:
            self.assertEqual(need_row(full_book(), (word,)), (word,))

    def test_60_words_are_a_row_and_61_are_not(self):
        for many in (59, 60):
            self.assertEqual(len(need_row(BOOK, ("5;5",) * many)), many)
        for many in (61, 62, 200, 201):
            self.check_refused(BadRow, need_row, BOOK, ("5;5",) * many)

    def test_what_is_no_row(self):
        for thing in NO_ROWS:
            for deed in (need_row, size_of, front):
                self.check_refused(BadRow, deed, BOOK, thing)
        for thing in odd_things():
            for row in (thing, ("1", thing), (thing, "1"), (thing,)):
                if raised_by(need_row, BOOK, row) is None:
                    self.assertIs(row.__class__, tuple)
                    self.assertTrue(all(word in ("1", "2", "3", "4", "5;5") for word in row))
                else:
                    self.check_refused(BadRow, need_row, BOOK, row)
        self.check_refused(BadRow, need_row, ((("a"),), (), ()), ("1",))

    def test_bad_books_ahead(self):
        for thing in bad_books():
            for deed in (need_row, size_of, front):
                self.check_raised(BadBook, deed, thing, ("1",))
                self.check_raised(BadBook, deed, thing, None)


class SizesAndFronts(Given):
    def test_sizes(self):
        for row, told in (((), 0), (("1",), 3), (("5;5",), 5), (("1", "1"), 6), (("1", "5;5", "4"), 11),
                          (("3",) * 60, 180)):
            self.assertEqual(size_of(BOOK, row), told)
        self.assertEqual(size_of(told_book(), ("38;5;208", "0")), 13)

    def test_fronts(self):
        for row, ink, weight in (
                ((), (), ()), (("1",), (("k", "red"),), ()),
                (("1", "3"), (("l", "blue"), ("k", "red")), (("l", "bold"),)),
                (("3", "1"), (("k", "red"), ("l", "blue")), (("l", "bold"),)),
                (("3", "2", "4"), (("l", "red"),), (("k", "bold"), ("l", "bold")))):
            self.assertEqual(front(BOOK, row), (("ink", ink), ("weight", weight)))

    def test_fronts_of_random_rows(self):
        chance = random.Random(30)
        for _ in range(200):
            book = random_book(chance, codes=8, kinds="klmnop", values="xyz")
            row = tuple(chance.choice(book[2])[0] for _ in range(chance.randint(0, 12) if book[2] else 0))
            told = front(book, row)
            self.assertEqual(told, tuple(chains_at_end(book, row).items()))
            self.assertEqual([thing.__class__ for thing in (told, *told)], [tuple] * (1 + len(told)))
            self.assertEqual(size_of(book, row), size(row))

    def test_the_fact_of_promise_12(self):
        chance = random.Random(31)
        for _ in range(200):
            book = random_book(chance, codes=8, kinds="klmn", values="xyz")
            items = [code[0] for code in book[2]]
            row, ahead = ([chance.choice(items) for _ in range(chance.randint(0, 6) if items else 0)] for _ in "ab")
            for aspect, chain in front(book, tuple(row)):
                behind = [pair for pair in chain_of(book, ahead, len(ahead), aspect) if pair[0] not in dict(chain)]
                self.assertEqual(chain_of(book, ahead + row, len(ahead + row), aspect), chain + tuple(behind))


class NeedWishes(Given):
    def test_wishes(self):
        for wishes in ((), WISH, (("weight", (("k", "bold"),)),), WISH + (("weight", (("z", "none"),)),),
                       (("ink", LONG),)):
            self.assertIs(need_wishes(BOOK, wishes), wishes)
            self.assertIs(need_wishes(BOOK, wishes, ()), wishes)
        six = tuple((aspect, (("k", "x"),)) for aspect in full_book()[0])
        self.assertIs(need_wishes(full_book(), six), six)

    def test_what_is_no_wishes(self):
        for thing in NO_WISHES:
            self.check_refused(BadWishes, need_wishes, BOOK, thing)
        for thing in odd_things():
            for wishes in (thing, (thing,), (("ink", thing),), ((thing, (("k", "x"),)),), WISH + (thing,)):
                raised = raised_by(need_wishes, BOOK, wishes)
                if raised is None:
                    self.assertTrue(all(aspect in BOOK[0] and is_chain(chain) and chain != ()
                                        for aspect, chain in wishes))
                else:
                    self.assertIs(raised.__class__, BadWishes)
                    self.assertIs(raised.given, wishes)

    def test_aspects_that_are_left_free(self):
        for wishes, free in (((), ()), ((), ("ink",)), ((), ("weight",)), ((), ("ink", "weight")), (WISH, ("weight",)),
                             (WISH, ()), ((("weight", (("k", "x"),)),), ("ink",))):
            self.assertIs(need_wishes(BOOK, wishes, free), wishes)
            self.assertIs(need_wishes(BOOK, wishes, free=free), wishes)
        for free in NOT_FREE:
            self.check_raised(BadQuestion, need_wishes, BOOK, WISH, free)
        self.check_raised(BadQuestion, need_wishes, BOOK, (), ("weight", "ink"))
        self.check_raised(BadQuestion, need_wishes, BOOK, (), ("ink", "ink"))
        self.check_raised(BadQuestion, need_wishes, full_book(), (), full_book()[0] + ("g",))
        self.assertEqual(need_wishes(full_book(), (), full_book()[0]), ())

    def test_the_order_of_the_errors_in_all_functions(self):
        deeds = ((need_wishes, (), BadQuestion), (meets, (("6",),), BadQuestion), (row_for, (), BadQuestion),
                 (is_bar, (("1",),), BadQuestion), (shortest_row, (), BadQuestion))
        for deed, more, last in deeds:
            for thing in bad_books():
                self.check_raised(BadBook, deed, thing, None, *more, None)
                self.check_raised(BadBook, deed, thing, WISH, *more)
            for book in (BOOK, many_codes(BOOK, 16)):
                for thing in NO_WISHES:
                    for free in ((), None, thing):
                        raised = self.check_raised(BadWishes, deed, book, thing, *more, free)
                        self.assertIs(raised.given, thing)
                    self.assertIs(self.check_raised(BadWishes, deed, book, thing, *more).given, thing)
                for free in NOT_FREE:
                    self.check_raised(last, deed, book, WISH, *more, free)

    def test_bad_rows_last(self):
        for thing in NO_ROWS:
            for free in ((), ("weight",)):
                self.assertIs(self.check_raised(BadRow, meets, BOOK, WISH, thing, free).given, thing)
            self.check_raised(BadQuestion, meets, BOOK, WISH, thing, ("ink",))
            self.assertIs(self.check_raised(BadWishes, meets, BOOK, thing, thing, ("ink",)).given, thing)
            self.check_refused(BadRow, meets, BOOK, WISH, thing)


class Meets(Given):
    def check(self, wishes, row, free, told):
        self.assertIs(meets(BOOK, wishes, row, free), told)
        self.assertIs(meets(BOOK, wishes, row, free=free), told)
        self.assertIs(row_meets(BOOK, wishes, row, free), told)

    def test_forms_that_are_wished(self):
        self.check(WISH, ("3", "1"), ("weight",), True)
        self.check(WISH, ("1", "3"), ("weight",), False)
        self.check(WISH, ("3", "1"), (), False)
        red = (("ink", (("l", "red"), ("k", "red"))),)
        for row in (("1", "2"), ("2", "1"), ("1", "1", "2", "1")):
            self.check(red, row, (), True)
        for row in ((), ("1",), ("2",), ("1", "2", "3"), ("1", "2", "5;5"), ("5;5", "2", "1")):
            self.check(red, row, (), False)

    def test_no_wishes(self):
        self.check((), (), (), True)
        self.check((), ("1",), (), False)
        self.check((), ("1",), ("ink",), True)
        self.check((), ("3",), ("ink",), False)
        self.check((), ("3",), ("ink", "weight"), True)
        self.check((), ("4",), ("ink",), False)
        self.check((), ("3", "4") * 30, ("ink", "weight"), True)

    def test_free_may_be_left_out(self):
        self.assertIs(meets(BOOK, WISH, ("3", "1")), False)
        self.assertIs(meets(BOOK, (), ()), True)
        self.assertIs(meets(BOOK, WISH + (("weight", (("l", "bold"),)),), ("3", "1")), True)

    def test_all_rows_of_random_books(self):
        chance = random.Random(32)
        told = [0, 0]
        for _ in range(250):
            book = random_book(chance, codes=4, kinds="kl")
            wishes, free = some_wishes(chance, book, "kl", "xy")
            for row in all_rows(book):
                met = row_meets(book, wishes, row, free)
                self.assertIs(meets(book, wishes, row, free), met)
                self.assertIs(meets(book, wishes, row + row, free), row_meets(book, wishes, row + row, free))
                told[met] += 1
        self.assertGreater(min(told), 100)


class RowFor(Given):
    def check(self, book, wishes, free):
        told = row_for(book, wishes, free)
        self.assertEqual(told, row_for(book, wishes, free=free))
        self.assertEqual([thing.__class__ for thing in (told, told[1])], [tuple] * 2)
        name, found = told
        if name == "row":
            self.assertTrue(row_meets(book, wishes, found, free))
            self.assertEqual(len(set(found)), len(found))
            self.assertIs(meets(book, wishes, found, free), True)
            for at in range(len(found)):
                self.assertFalse(row_meets(book, wishes, found[:at] + found[at + 1:], free), "an idle word")
        else:
            self.assertEqual(name, "bar")
            self.assertIn(found, bars_of(book, wishes, free))
            self.assertIs(is_bar(book, wishes, found, free), True)
        return name

    def test_rows_and_bars(self):
        for wishes, free, name in (
                ((), (), "row"), ((), ("ink", "weight"), "row"), (WISH, ("weight",), "row"), (WISH, (), "bar"),
                ((("ink", (("k", "red"), ("l", "red"))),), (), "row"), ((("ink", (("k", "blue"),)),), (), "bar"),
                ((("ink", (("z", "red"),)),), (), "bar"), ((("ink", LONG),), ("weight",), "bar"),
                ((("ink", (("m", "plain"),)), ("weight", (("k", "bold"),))), (), "row"),
                ((("weight", (("k", "bold"), ("l", "bold"))),), (), "bar"),
                ((("weight", (("k", "bold"), ("l", "bold"))),), ("ink",), "row")):
            self.assertEqual(self.check(BOOK, wishes, free), name)
        self.assertEqual(row_for(BOOK, ()), ("row", ()))
        self.assertEqual(row_for(BOOK, (("ink", (("k", "red"),)),)), ("row", ("1",)))
        self.assertEqual(row_for((("a",), (), ()), ()), ("row", ()))
        self.assertEqual(row_for((("a",), (), ()), (("a", (("k", "x"),)),)), ("bar", ()))

    def test_words_of_a_bar_ascend_as_strings(self):
        codes = tuple((word, "k", (("a", "x"),)) for word in ("9", "10", "1;1", "11", "1"))
        told = row_for((("a",), (), codes), (("a", (("k", "x"), ("l", "x"))),))
        self.assertEqual(told, ("bar", ("1", "10", "11", "1;1", "9")))

    def test_random_wishes_by_all_rows(self):
        chance = random.Random(33)
        told = {"row": 0, "bar": 0}
        for _ in range(500):
            book = random_book(chance, codes=5, kinds="klm"[:chance.randint(1, 3)])
            wishes, free = some_wishes(chance, book, "klm", "xy")
            name = self.check(book, wishes, free)
            told[name] += 1
            self.assertEqual(name == "row", any(row_meets(book, wishes, row, free) for row in all_rows(book)))
            self.assertEqual(name == "bar", bars_of(book, wishes, free) != [])
        self.assertGreater(min(told.values()), 80)

    def test_sixteen_codes(self):
        chance = random.Random(34)
        for _ in range(40):
            order = chance.sample([(aspect, kind) for aspect in "abc" for kind in "klmnop"], 16)
            codes = tuple((str(at), kind, ((aspect, chance.choice("xy")),)) for at, (aspect, kind) in enumerate(order))
            book = (("a", "b", "c"), (), codes)
            row = chance.sample([word for word, _, _ in codes], 16)
            wishes = tuple(chains_at_end(book, row).items())
            name, found = row_for(book, wishes)
            self.assertEqual(name, "row")
            self.assertTrue(row_meets(book, wishes, found, ()))
            self.assertEqual(len(set(found)), len(found))


class IsBar(Given):
    def test_all_tuples_of_words_of_random_books(self):
        chance = random.Random(35)
        told = [0, 0]
        for _ in range(400):
            book = random_book(chance, codes=4, kinds="kl")
            wishes, free = some_wishes(chance, book, "kl", "xy")
            bars = bars_of(book, wishes, free)
            for some in some_of(sorted(word for word, _, _ in book[2])):
                self.assertIs(is_bar(book, wishes, some, free), some in bars)
                self.assertIs(is_bar(book, wishes, some, free=free), some in bars)
                told[some in bars] += 1
        self.assertGreater(min(told), 200)

    def test_free_may_be_left_out(self):
        self.assertIs(is_bar(BOOK, WISH, ("1",)), True)
        self.assertIs(is_bar(BOOK, WISH, ("1",), ("weight",)), False)
        self.assertIs(is_bar(BOOK, WISH, ("1",), free=("weight",)), False)

    def test_words_that_do_not_ascend_or_stand_twice(self):
        book = (("a",), (), tuple((word, "k", (("a", "x"),)) for word in ("1", "2", "10")))
        wishes = (("a", (("k", "x"), ("l", "x"))),)
        for many in range(4):
            for row in itertools.product(("1", "10", "2"), repeat=many):
                self.assertIs(is_bar(book, wishes, row), row == ("1", "10", "2"))

    def test_strange_words_and_things_of_other_kinds(self):
        bar = ("1",)
        self.assertIs(is_bar(BOOK, WISH, bar), True)
        for thing in odd_things() + list(NO_ROWS) + ["6", ("1",), ["1"], "1", WISH, BOOK[2][0]]:
            for some in (("1", thing), (thing, "1"), ((thing,),), (thing, thing), ("1", thing, "2"), ("0", thing)):
                self.assertIs(is_bar(BOOK, WISH, some), are_bar(some))
            if not isinstance(thing, tuple):
                self.assertIs(is_bar(BOOK, WISH, thing), False)
        self.assertIs(is_bar(BOOK, WISH, ("1", "6")), False)
        self.assertIs(is_bar(BOOK, WISH, ("0", "1")), False)


class ShortestRow(Given):
    def check(self, book, wishes, free):
        told = shortest_row(book, wishes, free)
        self.assertEqual(told, shortest_row(book, wishes, free=free))
        sizes = [size(row) for row in all_rows(book) if row_meets(book, wishes, row, free)]
        if sizes == []:
            self.assertIsNone(told)
            self.assertEqual(row_for(book, wishes, free)[0], "bar")
            return None
        self.assertIs(told.__class__, tuple)
        self.assertTrue(row_meets(book, wishes, told, free))
        self.assertEqual(size(told), min(sizes))
        return len(told)

    def test_sizes_count_more_than_words(self):
        give = (("a", "x"), ("b", "x"))
        book = (("a", "b"), (), (("1;1;1;1", "k", give), ("1", "k", give[:1]), ("2", "k", give[1:])))
        wishes = (("a", (("k", "x"),)), ("b", (("k", "x"),)))
        self.assertEqual(sorted(shortest_row(book, wishes)), ["1", "2"])
        book = (("a", "b"), (), (("1;1", "k", give), ("1", "k", give[:1]), ("2", "k", give[1:])))
        self.assertEqual(shortest_row(book, wishes), ("1;1",))
        self.check(book, wishes, ())

    def test_rows_and_none(self):
        self.assertEqual(shortest_row(BOOK, ()), ())
        self.assertEqual(shortest_row(BOOK, (("ink", (("k", "red"),)),)), ("1",))
        self.assertEqual(shortest_row(BOOK, WISH, ("weight",)), ("3", "1"))
        self.assertEqual(shortest_row(BOOK, WISH, free=("weight",)), ("3", "1"))
        self.assertIsNone(shortest_row(BOOK, WISH))
        self.assertIsNone(shortest_row(BOOK, (("ink", LONG),)))

    def test_random_wishes_by_all_rows(self):
        chance = random.Random(36)
        told = {}
        for _ in range(600):
            book = random_book(chance, codes=5, kinds="klm"[:chance.randint(1, 3)])
            names = chance.sample(["1", "2;2", "33", "4;4;4;4", "55555555"], 5)
            book = book[:2] + (tuple((name,) + code[1:] for name, code in zip(names, book[2])),)
            wishes, free = some_wishes(chance, book, "klm", "xy")
            many = self.check(book, wishes, free)
            told[many] = told.get(many, 0) + 1
        self.assertGreater(min(told[many] for many in (None, 0, 1, 2, 3)), 5)

    def test_rows_that_need_one_more_code_for_a_free_aspect_or_a_settled_one(self):
        codes = (("1", "k", (("a", "x"),)), ("2", "k", (("a", "y"), ("b", "x"))), ("3", "k", (("b", "y"), ("c", "x"))))
        book = (("a", "b", "c"), (), codes)
        wishes = (("a", (("k", "x"),)), ("b", (("k", "x"),)), ("c", (("k", "x"),)))
        self.assertEqual(shortest_row(book, wishes), ("3", "2", "1"))
        self.assertEqual(row_for(book, wishes), ("row", ("3", "2", "1")))
        self.check(book, wishes, ())

    def test_ten_codes_are_taken_and_eleven_refused(self):
        ten = many_codes(BOOK, 10)
        self.assertEqual(shortest_row(ten, ()), ())
        self.assertEqual(shortest_row(ten, WISH, ("weight",)), ("3", "1"))
        for many in range(11, 17):
            book = many_codes(BOOK, many)
            self.assertEqual(self.check_raised(TooMany, shortest_row, book, ()).most, 10)
            self.assertEqual(self.check_raised(TooMany, shortest_row, book, WISH, ("weight",)).most, 10)

    def test_ten_codes_that_are_all_needed(self):
        kinds = "klmno"
        codes = tuple((f"{at}", kinds[at // 2], (("ab"[at % 2], "xyxyx"[at // 2]),)) for at in range(10))
        book = (("a", "b"), (), codes)
        wishes = tuple(chains_at_end(book, [word for word, _, _ in codes]).items())
        told = shortest_row(book, wishes)
        self.assertEqual(size(told), 30)
        self.assertTrue(row_meets(book, wishes, told, ()))


class Calls(Given):
    def test_equal_calls_return_equal_results_and_change_nothing(self):
        kept = copy.deepcopy((BOOK, WISH))
        for _ in range(2):
            for deed in (row_for, shortest_row, need_wishes):
                self.assertEqual(deed(BOOK, WISH, ("weight",)), deed(*copy.deepcopy((BOOK, WISH, ("weight",)))))
            self.assertEqual(row_for(BOOK, WISH), row_for(*copy.deepcopy((BOOK, WISH))))
            self.assertEqual(front(BOOK, ("1", "3")), front(*copy.deepcopy((BOOK, ("1", "3")))))
            self.assertEqual((BOOK, WISH), kept)

    def test_a_call_that_raises_changes_nothing(self):
        for thing in (["1"], [("ink", (("k", "red"),))], {"ink": [1]}, (["1"],), (("ink", [("k", "red")]),)):
            kept = copy.deepcopy(thing)
            for deed in (need_wishes, row_for, shortest_row):
                self.check_raised(BadWishes, deed, BOOK, thing)
                self.check_raised(BadQuestion, deed, BOOK, WISH, thing)
            for deed in (need_row, size_of, front):
                self.check_raised(BadRow, deed, BOOK, thing)
            self.assertIs(is_bar(BOOK, WISH, thing), False)
            self.assertEqual(thing, kept)


if __name__ == "__main__":
    unittest.main()
