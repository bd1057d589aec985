"""Tests of stylefall.wrappers: promises 15 and 16, and 1, 2 and 4 to 6 for these functions."""

import copy
import random
import unittest

from stylefall.errors import BadBook, BadQuestion, BadTree, BadWrappers
from stylefall.wrappers import drawn, drawn_again, is_right, need_tree, need_wrappers, nested, restores, unnested
from tests.things import (
    Agreeable, Awkward, Given, bad_books, deep_in, kinds, odd_things, plain, raised_by, random_book, sight, some_of)

BOOK = (("ink", "weight"), ("ink",), (
    ("1", "k", (("weight", "bold"),)), ("2", "k", (("ink", "red"),)), ("3", "l", (("ink", "blue"),)),
    ("4", "k", (("ink", "plain"), ("weight", "plain"))), ("5", "k", (("weight", "plain"),)),
    ("6", "k", (("ink", "plain"),)), ("7", "l", (("ink", "plain"),))))
BOLD, RED, BLUE = (("1",), ("5",)), (("2",), ("6",)), (("3",), ("7",))
THREE = (BOLD, RED, BLUE)
ALL_OFF = (("1",), ("4",))
SIX = (BOLD, RED, BLUE, ALL_OFF, ((), ()), BOLD)
FIVE_DEEP = ((0, ((1, ((2, ((3, ((4, ("a",)),)),)),)),)),)
NO_WRAPPERS = (
    None, True, 0, "", "1", b"", [], list(THREE), {}, dict(THREE), (), BOLD, (BOLD,) * 7, (BOLD,) * 100000, ((),),
    (("1",),), (("1", "5"),), (BOLD + ((),),), (list(BOLD),), (("1", ()),), (((), "1"),), ((["1"], ()),),
    (((), ["1"]),),
    ((("1",) * 13, ()),), (((), ("1",) * 13),), ((("8",), ()),), (((), ("8",)),), ((("a",), ()),), (((" ",), ()),),
    THREE + (None,), THREE + (((), ("1", "8")),), (None,) + THREE, ((None, ()),), (((), None),), (((1,), ()),),
    (Awkward(),), (Agreeable(),), Awkward(), Agreeable(), ((Awkward(), ()),), (((Agreeable("1"),), ()),),
    (deep_in(tuple, "1", 50000),), 10 ** 5000)
NO_TREES = (
    None, True, 0, "", "a", "ab", b"a", [], ["a"], {}, {"a": "b"}, ("ab",), ("\n",), ("1",), ("",), ("A",), (None,),
    (1,),
    (("a",),), ((),), ((0,),), ((0, (), ()),), ((0, "a"),), ((0, ["a"]),), ([0, ()],), ((0, None),), ((3, ()),),
    ((-1, ()),), ((True, ()),), ((False, ()),), ((None, ()),), (("0", ()),), ((0j, ()),), ((10 ** 5000, ()),),
    ((0, ((0, ()),)),), ((0, ((1, ("a", (0, ("b",)))),)),), ((0, ((1, ((2, ((1, ()),)),)),)),), ("a", (0, ("b", "1"))),
    ("a",) * 31, ("a",) * 100000, ((0, ("a",) * 30),), (Awkward(),), (Agreeable(),), Awkward(), Agreeable(),
    ((0, Awkward()),), ((0, (Agreeable(),)),), ((Agreeable(), ()),), ((Awkward(), ()),), deep_in(tuple, "a", 50000),
    ((0, deep_in(tuple, "a", 50000)),), (0, ()), (0, ("a",)))


def is_tree(thing, many, around=()):
    """Whether a thing has the form of a tree, the number of its items aside."""
    if not isinstance(thing, tuple) or len(around) > 5:
        return False
    for item in thing:
        if isinstance(item, tuple):
            if len(item) != 2 or item[0].__class__ is not int or not 0 <= item[0] < many or item[0] in around:
                return False
            if not is_tree(item[1], many, around + (item[0],)):
                return False
        elif not isinstance(item, str) or len(item) != 1 or item not in "abcdefghijklmnopqrstuvwxyz ":
            return False
    return True


def many_items(tree):
    return sum(1 + (many_items(item[1]) if isinstance(item, tuple) else 0) for item in tree)


def items_of(wrappers, tree, again, around=()):
    """What is drawn, by the words of the document; around are the numbers of the wrappers around."""
    items = ()
    for item in tree:
        if isinstance(item, str):
            items += (item,)
        else:
            number, inner = item
            items += wrappers[number][0] + items_of(wrappers, inner, again, around + (number,)) + wrappers[number][1]
            if again:
                for other in around:
                    items += wrappers[other][0]
    return items


def meant_streams(wrappers, tree, ahead=()):
    """For each letter and blank the stream in which it looks as it is meant to."""
    for item in tree:
        if isinstance(item, str):
            yield ahead + (item,)
        else:
            yield from meant_streams(wrappers, item[1], ahead + wrappers[item[0]][0])


def right(book, wrappers, tree, again):
    """Whether a tree is right, by what is seen on all terminals of the book's kinds."""
    for terminal in some_of(kinds(book)):
        pairs = sight(book, items_of(wrappers, tree, again), terminal, plain(book))
        streams = list(meant_streams(wrappers, tree))
        if pairs != tuple(sight(book, stream, terminal, plain(book))[-1] for stream in streams):
            return False
    return True


def restores_on(book, wrappers, number, under, terminal):
    ahead = () if under is None else wrappers[under][0]
    first = sight(book, ahead + ("a",), terminal, plain(book))
    return first == sight(book, ahead + wrappers[number][0] + wrappers[number][1] + ("a",), terminal, plain(book))


def restoring(book, wrappers, number, under):
    return all(restores_on(book, wrappers, number, under, terminal) for terminal in some_of(kinds(book)))


def some_wrappers(chance, book, many):
    """Wrappers many of which restore."""
    items = [code[0] for code in book[2]]
    offs = [code[0] for code in book[2] if {value for _, value in code[2]} == {"plain"}]
    rows = []
    for _ in range(chance.randint(1, many)):
        opening = tuple(chance.choice(items) for _ in range(chance.randint(0, 2) if items else 0))
        closing = tuple(chance.sample(offs, len(offs))) if chance.random() < 0.7 else opening[:1]
        rows.append((opening, closing))
    return tuple(rows)


def some_tree(chance, many, around=()):
    items = []
    for _ in range(chance.randint(0, 3)):
        others = [number for number in range(many) if number not in around]
        if others and len(around) < 3 and chance.random() < 0.6:
            number = chance.choice(others)
            items.append((number, some_tree(chance, many, around + (number,))[:3]))
        else:
            items.append(chance.choice("ab "))
    return tuple(items)


def random_case(chance, most=3, values=("x", "plain", "plain")):
    """A book and wrappers of it."""
    book = random_book(chance, aspects="ab", codes=6, kinds="kl", values=values)
    return book, some_wrappers(chance, book, most)


class NeedWrappers(Given):
    def test_wrappers(self):
        for wrappers in ((BOLD,), THREE, SIX, (((), ()),), (BOLD, BOLD), (BOLD,) * 6):
            self.assertIs(need_wrappers(BOOK, wrappers), wrappers)

    def test_12_words_a_row_and_6_wrappers(self):
        for many in range(14):
            for wrappers in (((("1",) * many, ()),), (((), ("1",) * many),), (BOLD, (("1",) * many, ("5",) * many))):
                if many <= 12:
                    self.assertIs(need_wrappers(BOOK, wrappers), wrappers)
                else:
                    self.check_refused(BadWrappers, need_wrappers, BOOK, wrappers)
        for many in range(9):
            if 1 <= many <= 6:
                self.assertEqual(need_wrappers(BOOK, (RED,) * many), (RED,) * many)
            else:
                self.check_refused(BadWrappers, need_wrappers, BOOK, (RED,) * many)

    def test_what_is_no_wrappers(self):
        for thing in NO_WRAPPERS:
            self.check_refused(BadWrappers, need_wrappers, BOOK, thing)
        for thing in odd_things():
            for wrappers in (thing, (thing,), ((thing, ()),), (((), thing),), (BOLD, (("1",), (thing,))),
                             ((("1", thing), ()), BOLD)):
                if raised_by(need_wrappers, BOOK, wrappers) is None:
                    words = [word for pair in wrappers for row in pair for word in row]
                    self.assertLessEqual(set(words), set("1234567"))
                else:
                    self.check_refused(BadWrappers, need_wrappers, BOOK, wrappers)

    def test_bad_books_then_bad_wrappers_in_all_functions(self):
        for deed, more in ((need_wrappers, ()), (need_tree, (None,)), (drawn, (None,)), (drawn_again, (None,)),
                           (is_right, (None,)), (is_right, (None, True)), (restores, (None,)), (restores, (9, 9)),
                           (nested, ()), (unnested, ())):
            for thing in bad_books():
                self.check_raised(BadBook, deed, thing, THREE, *more)
                self.check_raised(BadBook, deed, thing, None, *more)
            for thing in NO_WRAPPERS:
                self.assertIs(self.check_raised(BadWrappers, deed, BOOK, thing, *more).given, thing)


class NeedTree(Given):
    def test_trees(self):
        for tree in ((), ("a",), (" ",), tuple("abc xyz"), ((0, ()),), ((0, ("a",)), "b", (0, ("c",))), FIVE_DEEP,
                     ((2, ((1, ("a",)), (0, (" ",)))), (1, ((2, ()),)))):
            self.assertIs(need_tree(BOOK, SIX, tree), tree)

    def test_the_number_of_a_wrapper(self):
        for many in range(1, 7):
            for number in range(-2, 9):
                tree = ((number, ("a",)),)
                if 0 <= number < many:
                    self.assertIs(need_tree(BOOK, SIX[:many], tree), tree)
                else:
                    self.check_refused(BadTree, need_tree, BOOK, SIX[:many], tree)

    def test_no_number_within_a_pair_with_the_same_number(self):
        equal = (BOLD, BOLD)
        self.assertEqual(need_tree(BOOK, equal, ((0, ((1, ("a",)),)),)), ((0, ((1, ("a",)),)),))
        for tree in (((0, ((0, ()),)),), ((0, ((1, ((0, ()),)),)),), ("a", (1, ("b", (0, ("c", (1, ()))))))):
            self.check_refused(BadTree, need_tree, BOOK, equal, tree)
        beside = ((0, ((1, ()), (1, ()))), (0, ()), (1, ((0, ()), "a", (0, ()))))
        self.assertIs(need_tree(BOOK, equal, beside), beside)

    def test_six_trees_one_in_another_and_no_more(self):
        self.assertIs(need_tree(BOOK, SIX, FIVE_DEEP), FIVE_DEEP)
        for innermost in ((), ("a",)):
            for order in ((0, 1, 2, 3, 4, 5), (5, 3, 1, 0, 2, 4)):
                tree = innermost
                for many, number in enumerate(order):
                    self.assertEqual(need_tree(BOOK, SIX, tree), tree)
                    tree = ((number, tree),)
                self.check_refused(BadTree, need_tree, BOOK, SIX, tree)
                self.check_refused(BadTree, need_tree, BOOK, SIX, ("a",) + tree)

    def test_30_items_in_all_and_no_more(self):
        pair = (0, tuple("a" * 9))
        for tree in (tuple("a" * 30), (pair,) * 3, ((1, (pair, pair) + ("b",) * 9),), tuple("a" * 20) + (pair,),
                     ((0, ("a",) * 29),), ((0, ((1, ("a",) * 28),)),), ((0, ()),) * 30):
            self.assertEqual(many_items(tree), 30)
            self.assertIs(need_tree(BOOK, SIX, tree), tree)
            for more in (tree + ("a",), ("a",) + tree, tree + ((0, ()),), tree * 2):
                self.check_refused(BadTree, need_tree, BOOK, SIX, more)
        for tree in ((pair, pair, (0, tuple("a" * 10))), ((1, (pair, pair) + ("b",) * 10),), ((0, ("a",) * 30),)):
            self.assertEqual(many_items(tree), 31)
            self.check_refused(BadTree, need_tree, BOOK, SIX, tree)

    def test_trees_with_the_same_trees_in_them_again_and_again(self):
        tree = ("a",) * 20
        for number in range(5):
            tree = ((number, tree),) * 29
        self.check_refused(BadTree, need_tree, BOOK, SIX, tree)

    def test_what_is_no_tree(self):
        for thing in NO_TREES:
            for deed in (need_tree, drawn, drawn_again, is_right):
                self.check_refused(BadTree, deed, BOOK, THREE, thing)
            self.assertIs(self.check_raised(BadTree, is_right, BOOK, THREE, thing, True).given, thing)
        told = 0
        for thing in odd_things():
            for tree in (thing, (thing,), ("a", thing), ((0, thing),), ((thing, ()),), ((0, (thing, "a")), "b")):
                raised = raised_by(need_tree, BOOK, THREE, tree)
                if raised is None:
                    told += 1
                    self.assertTrue(is_tree(tree, 3) and many_items(tree) <= 30)
                else:
                    self.assertIs(raised.__class__, BadTree)
                    self.assertIs(raised.given, tree)
        self.assertGreater(told, 20)

    def test_random_trees(self):
        chance = random.Random(40)
        told = [0, 0]
        for _ in range(1000):
            tree = some_tree(chance, chance.randint(1, 6))
            good = is_tree(tree, 3) and many_items(tree) <= 30
            told[good] += 1
            self.assertIs(raised_by(need_tree, BOOK, THREE, tree) is None, good)
        self.assertGreater(min(told), 200)


class Drawn(Given):
    def check(self, wrappers, tree, once, again):
        self.assertEqual(drawn(BOOK, wrappers, tree), tuple(once))
        self.assertEqual(drawn_again(BOOK, wrappers, tree), tuple(again))

    def test_items_in_their_order(self):
        self.check(THREE, (), "", "")
        self.check(THREE, ("a", " ", "b"), "a b", "a b")
        self.check(THREE, ("a", (0, ("b",)), "c"), "a1b5c", "a1b5c")
        self.check(THREE, ((2, ()),), "37", "37")
        self.check(THREE, ((0, ("a",)), (1, ("b",))), "1a52b6", "1a52b6")
        self.check(((("1", "2"), ("5", "6")),), ((0, ("a",)),), "12a56", "12a56")

    def test_opens_come_again_the_outermost_first(self):
        self.check(THREE, ((0, ("a", (1, ("b",)), "c")), "d"), "1a2b6c5d", "1a2b61c5d")
        self.check(THREE, ((1, ((0, ((2, ("a",)), "b")),)),), "213a7b56", "213a721b526")
        self.check(THREE, ((1, ((0, ((2, ()),)), (2, ()))),), "2137" + "5376", "213721" + "52" + "37" + "2" + "6")
        double = ((("1", "2"), ("4",)), (("3",), ("7",)))
        self.check(double, ((0, ((1, ()),)),), "12374", "1237124")

    def test_random_trees(self):
        chance = random.Random(41)
        for _ in range(300):
            tree = some_tree(chance, 6)
            if many_items(tree) <= 30:
                self.check(SIX, tree, items_of(SIX, tree, False), items_of(SIX, tree, True))

    def test_more_items_than_a_stream_may_have(self):
        wrappers = tuple((("1",) * 12, ("5",) * 12) for _ in range(6))
        tree = ("a",) * 20
        for number in range(5):
            tree = ((number, tree),)
        told = drawn(BOOK, wrappers, tree)
        self.assertEqual(told, ("1",) * 60 + ("a",) * 20 + ("5",) * 60)
        told = drawn_again(BOOK, wrappers, tree)
        self.assertEqual(told, ("1",) * 60 + ("a",) * 20 + (("5",) * 12 + ("1",) * 48) + (("5",) * 12 + ("1",) * 36)
                         + (("5",) * 12 + ("1",) * 24) + (("5",) * 12 + ("1",) * 12) + ("5",) * 12)
        wide = ((0, ((1, ((2, ((3, ((4, ()),) * 26),)),)),)),)
        self.assertEqual(len(drawn(BOOK, wrappers, wide)), 26 * 24 + 4 * 24)
        self.assertIs(is_right(BOOK, wrappers, wide), True)
        self.assertIs(is_right(BOOK, wrappers, wide, True), True)


class IsRight(Given):
    def check(self, wrappers, tree, once, again, book=BOOK):
        for told, more in ((once, ()), (once, (False,)), (again, (True,))):
            self.assertIs(is_right(book, wrappers, tree, *more), told)
        self.assertIs(is_right(book, wrappers, tree, again=False), once)
        self.assertIs(is_right(book, wrappers, tree, again=True), again)
        self.assertIs(right(book, wrappers, tree, False), once)
        self.assertIs(right(book, wrappers, tree, True), again)

    def test_trees_that_are_right_and_that_are_not(self):
        inner = ((0, ("a", (1, ("b",)), "c")), "d")
        self.check(THREE, inner, True, True)
        self.check((BOLD, (("2",), ("4",))), inner, False, True)
        self.check((BOLD, (("2",), ())), inner, False, False)
        self.check((BOLD, ALL_OFF), ((0, ("a", (1, ("b",)), "c")),), False, True)
        self.check((BOLD, ALL_OFF), ((0, ("a", (1, ("b",)))),), True, True)
        self.check((BOLD, ALL_OFF), ((1, ("a", (0, ("b",)), "c")),), False, True)
        self.check((RED, BLUE), ((0, ("a", (1, ("b",)), "c")),), False, True)

    def test_no_signs(self):
        self.check(((("1",), ()),), ((0, ()),), True, True)
        self.check(((("1",), ()),), (), True, True)
        self.check(((("1",), ()),), ((0, ()), "a"), False, False)

    def test_blanks_look_as_meant_in_what_shows_there_alone(self):
        self.check(((("1",), ()),), ((0, ("a",)), " "), True, True)
        self.check(((("2",), ()),), ((0, ("a",)), " "), False, False)
        self.check(((("1",), ()),), ((0, ("a",)), "a"), False, False)
        self.check(((("1",), ()),), ((0, ("a",)), " "), False, False, (BOOK[0], ("weight",), BOOK[2]))

    def test_what_is_plain_is_as_if_no_code_stood_there(self):
        self.check(((("4", "7"), ()),), ((0, ("a",)), "b"), True, True)
        self.check(((("4",), ("2", "6")),), ((0, ("a",)), "b"), True, True)
        self.check((RED, (("6",), ("6",))), ((0, ("a", (1, ("b",)), "c")), "d"), False, True)

    def test_random_trees(self):
        chance = random.Random(42)
        told = {}
        for _ in range(1500):
            book, wrappers = random_case(chance)
            tree = some_tree(chance, len(wrappers))
            if many_items(tree) <= 30:
                once, again = right(book, wrappers, tree, False), right(book, wrappers, tree, True)
                self.check(wrappers, tree, once, again, book)
                told[once, again] = told.get((once, again), 0) + 1
        self.assertGreater(min(told[pair] for pair in ((True, True), (False, False), (False, True))), 20)


class Restores(Given):
    def test_under_nothing(self):
        wrappers = THREE + (ALL_OFF, (("1",), ()), (("2",), ("7",)))
        for number, told in enumerate([True] * 4 + [False] * 2):
            self.assertIs(restores(BOOK, wrappers, number), told)
            self.assertIs(restores(BOOK, wrappers, number, None), told)
            self.assertIs(restores(BOOK, wrappers, number, under=None), told)

    def test_under_another_one(self):
        wrappers = (BOLD, RED, BLUE, ALL_OFF)
        for number in range(4):
            for under in range(4):
                told = restoring(BOOK, wrappers, number, under)
                self.assertIs(restores(BOOK, wrappers, number, under), told)
                self.assertIs(restores(BOOK, wrappers, number, under=under), told)
        self.assertIs(restores(BOOK, wrappers, 3, 1), False)
        self.assertIs(restores(BOOK, wrappers, 1, 3), True)
        self.assertIs(restores(BOOK, wrappers, 0, 3), False)

    def test_under_the_same_number(self):
        self.assertIs(restores(BOOK, THREE, 0, 0), False)
        self.assertIs(restores(BOOK, (((), ()),), 0, 0), True)
        self.assertIs(restores(BOOK, ((("1",), ("1",)),), 0, 0), True)
        self.assertIs(restores(BOOK, ((("1",), ("1",)),), 0), False)

    def test_orders_that_two_kinds_alone_show(self):
        swap = ((("2", "3"), ()), (("2",), ()), (("3", "2"), ()))
        self.assertIs(restores(BOOK, swap, 1, 0), False)
        self.assertIs(restores(BOOK, swap, 1, 2), True)
        self.assertEqual([terminal for terminal in some_of("kl")
                          if not restores_on(BOOK, swap, 1, 0, terminal)], [("k", "l")])

    def test_random_wrappers(self):
        chance = random.Random(43)
        told = [0, 0]
        for _ in range(300):
            book, wrappers = random_case(chance)
            for number in range(len(wrappers)):
                for under in (None, *range(len(wrappers))):
                    good = restoring(book, wrappers, number, under)
                    self.assertIs(restores(book, wrappers, number, under), good)
                    told[good] += 1
        self.assertGreater(min(told), 200)

    def test_what_is_no_number(self):
        for thing in odd_things() + [3, 4, -1, "0", Agreeable(0), (0,), 2 ** 64, 1j]:
            if thing.__class__ is int and 0 <= thing < 3:
                self.assertIn(restores(BOOK, THREE, thing, thing), (True, False))
            else:
                for under in (None, 0, thing, 7):
                    self.check_raised(BadQuestion, restores, BOOK, THREE, thing, under)
                if thing is not None:
                    self.check_raised(BadQuestion, restores, BOOK, THREE, 0, thing)
                self.check_raised(BadQuestion, restores, BOOK, THREE, thing)
        for many in range(1, 7):
            self.assertIn(restores(BOOK, SIX[:many], many - 1, many - 1), (True, False))
            self.check_raised(BadQuestion, restores, BOOK, SIX[:many], many)
            self.check_raised(BadQuestion, restores, BOOK, SIX[:many], 0, many)
            self.check_raised(BadQuestion, restores, BOOK, SIX[:many], -1, 0)
            self.check_raised(BadQuestion, restores, BOOK, SIX[:many], 0, -1)


class Nested(Given):
    def check(self, book, wrappers):
        """Whether the wrappers are nested; what is told of them is held against all terminals."""
        many = len(wrappers)
        pairs = [(under, number) for number in range(many) for under in (None, *range(many)) if under != number]
        good = all(restoring(book, wrappers, number, under) for under, number in pairs)
        self.assertIs(nested(book, wrappers), good)
        told = unnested(book, wrappers)
        if good:
            self.assertIsNone(told)
        else:
            self.assertEqual([told.__class__, told[2].__class__], [tuple] * 2)
            under, number, terminal = told
            self.assertIn((under, number), pairs)
            self.assertIn(terminal, [some for some in some_of(kinds(book)) if len(some) in (1, 2)])
            self.assertFalse(restores_on(book, wrappers, number, under, terminal))
        return told

    def test_wrappers_that_are_nested_and_that_are_not(self):
        for wrappers in ((BOLD,), (BOLD, RED), (BOLD, BLUE), (((), ()),) * 6, ((("4", "7"), ()),), (((), ("4", "7")),)):
            self.assertIsNone(self.check(BOOK, wrappers))
        for wrappers in (((("1",), ()),), (RED, BLUE), (BOLD, BOLD), (BOLD, ALL_OFF), SIX, (RED, (("6",), ()))):
            self.assertIsNotNone(self.check(BOOK, wrappers))
        self.assertEqual(unnested(BOOK, ((("2",), ()),)), (None, 0, ("k",)))
        self.assertEqual(unnested(BOOK, (RED, ((), ("6",)))), (0, 1, ("k",)))

    def test_what_two_kinds_alone_show(self):
        book = (("a",), (), (("1", "k", (("a", "x"),)), ("2", "l", (("a", "y"),)), ("3", "k", (("a", "plain"),)),
                             ("4", "l", (("a", "plain"),)), ("5", "m", (("a", "x"),)), ("6", "m", (("a", "plain"),))))
        wrappers = ((("5", "2"), ("4", "6")), (("3",), ("3",)))
        self.assertEqual(self.check(book, wrappers)[:2], (0, 1))
        self.assertEqual(len(unnested(book, wrappers)[2]), 2)

    def test_random_wrappers(self):
        chance = random.Random(44)
        told = {}
        for _ in range(600):
            book, wrappers = random_case(chance)
            shown = self.check(book, wrappers)
            key = None if shown is None else (shown[0] is None, len(shown[2]))
            told[key] = told.get(key, 0) + 1
        self.assertGreater(min(told[key] for key in (None, (True, 1), (False, 1))), 20)

    def test_the_facts_of_promise_16(self):
        chance = random.Random(45)
        told = [0, 0, 0]
        for _ in range(300):
            book, wrappers = random_case(chance)
            again = all(restores(book, wrappers, number) for number in range(len(wrappers)))
            for _ in range(4):
                tree = some_tree(chance, len(wrappers))
                if many_items(tree) <= 30:
                    self.assertTrue(is_right(book, wrappers, tree) or not nested(book, wrappers))
                    self.assertTrue(is_right(book, wrappers, tree, True) or not again)
            shown = unnested(book, wrappers)
            if shown is not None:
                inner = ((shown[1], ()), "a")
                tree = inner if shown[0] is None else ((shown[0], inner),)
                self.assertIs(is_right(book, wrappers, tree), False)
            if not again:
                self.assertIn(False, [is_right(book, wrappers, ((number, ()), "a"), True)
                                      for number in range(len(wrappers))])
            told[(shown is None) + again] += 1
        self.assertGreater(min(told), 20)


class Calls(Given):
    def test_equal_calls_return_equal_results_and_change_nothing(self):
        tree = ("a", (0, ("b", (1, ("c",)), " ")))
        kept = copy.deepcopy((BOOK, SIX, tree))
        for _ in range(2):
            for deed in (drawn, drawn_again, is_right, need_tree):
                self.assertEqual(deed(BOOK, SIX, tree), deed(*copy.deepcopy((BOOK, SIX, tree))))
            self.assertEqual(unnested(BOOK, SIX), unnested(*copy.deepcopy((BOOK, SIX))))
            self.assertIs(nested(BOOK, SIX), False)
            self.assertEqual((BOOK, SIX, tree), kept)

    def test_a_call_that_raises_changes_nothing(self):
        for thing in (["a"], [0, ["a"]], ([0, ("a",)],), ((0, ["a"]),), {"a": ["a"]}, [(("1",), ())], ((["1"], ()),)):
            kept = copy.deepcopy(thing)
            for deed in (need_tree, drawn, drawn_again, is_right):
                self.check_raised(BadTree, deed, BOOK, SIX, thing)
            for deed in (need_wrappers, nested, unnested):
                self.check_raised(BadWrappers, deed, BOOK, thing)
            self.check_raised(BadQuestion, restores, BOOK, SIX, thing)
            self.check_raised(BadQuestion, restores, BOOK, SIX, 0, thing)
            self.assertEqual(thing, kept)


if __name__ == "__main__":
    unittest.main()
