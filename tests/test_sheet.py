"""Tests of stylefall.sheet: promise 19, and 1 to 3, 7 and 8 for its class and its function."""

import contextlib
import copy
import random
import unittest

from stylefall.errors import BadBook, BadQuestion, BadStream, Missing, Parts
from stylefall.likeness import alike, lean
from stylefall.seeing import seen
from stylefall.sheet import Sheet, under
from tests.things import (
    Agreeable, Awkward, Given, bad_books, full_book, is_name, odd_things, random_book, random_stream, raised_by,
    told_book, words)

BOOK = (("ink", "weight"), ("ink",), (
    ("1", "k", (("ink", "red"),)), ("2", "l", (("ink", "red"),)), ("3", "m", (("ink", "blue"), ("weight", "bold"))),
    ("4", "k", (("weight", "bold"),))))
NO_STREAMS = ((None, None), (["a"], None), ("a", None), (("a",) * 201, None), (("a", "5"), 1), (("a", "1", None), 2),
              ((Agreeable("1"),), 0), (Awkward(), None), (Agreeable(), None), ({}, None), (("",), 0))


def sheet_of(**texts):
    """A sheet of BOOK with a stream for each short text."""
    sheet = Sheet(BOOK)
    for name, text in texts.items():
        sheet[name] = words(text)
    return sheet


def view(sheet):
    """All that is kept."""
    return {name: sheet[name] for name in sheet.names()}


def undone(sheet):
    """What is kept after each undo, until none is left; the sheet is as it was behind this."""
    with sheet.trial():
        views = [view(sheet)]
        while sheet.undo():
            views.append(view(sheet))
    return views


class SheetCase(Given):
    def check_view(self, sheet, **texts):
        self.assertEqual(view(sheet), {name: words(text) for name, text in texts.items()})

    def check_untouched(self, sheet, error, deed, *told):
        """The deed raises the error, changes nothing, and leaves nothing to be undone."""
        ahead = undone(sheet)
        raised = self.check_raised(error, deed, *told)
        self.assertEqual(undone(sheet), ahead)
        return raised


def put(sheet, name, stream):
    sheet[name] = stream


def take(sheet, name):
    return sheet[name]


class Items(SheetCase):
    def test_a_new_sheet(self):
        sheet = Sheet(BOOK)
        self.assertEqual(sheet.book, BOOK)
        self.assertEqual(len(sheet), 0)
        self.assertEqual(sheet.names(), ())
        self.assertIs(sheet.undo(), False)
        self.assertEqual(Sheet((("a",), (), ())).book, (("a",), (), ()))

    def test_bad_books(self):
        for thing in bad_books() + odd_things():
            self.check_raised(BadBook, Sheet, thing)
        self.assertEqual(self.check_raised(BadBook, Sheet, (("a",), ("b",), ())).place, "shown")

    def test_streams_are_kept_by_names(self):
        sheet = Sheet(BOOK)
        for name in ("b", "a", "abcdefgh", "zzzzzzzz", "book", "names"):
            self.assertIs(name in sheet, False)
            sheet[name] = ("1", name[0])
            self.assertIs(name in sheet, True)
            self.assertEqual(sheet[name], ("1", name[0]))
        self.assertEqual(len(sheet), 6)
        self.assertEqual(sheet.names(), ("a", "abcdefgh", "b", "book", "names", "zzzzzzzz"))
        self.assertIs(sheet.names().__class__, tuple)
        sheet["b"] = ()
        self.assertEqual(sheet["b"], ())
        self.assertEqual(len(sheet), 6)
        self.assertEqual(Sheet(full_book()).names(), ())

    def test_setting_returns_none_and_takes_any_stream(self):
        sheet = sheet_of(a="1a")
        for stream in ((), ("b",), ("1",) * 200, ("a", "\n", " ", "4")):
            self.assertIsNone(sheet.__setitem__("a", stream))
            self.assertEqual(sheet["a"], stream)

    def test_what_is_no_name(self):
        sheet = sheet_of(a="1a")
        for thing in odd_things() + ["A", "abcdefghi", "a b", "a1", "a\n", "", Agreeable("a"), ("a",), b"a"]:
            if not is_name(thing):
                for stream in (("a",), None, thing):
                    self.check_untouched(sheet, BadQuestion, put, sheet, thing, stream)
        self.check_view(sheet, a="1a")

    def test_bad_streams_behind_bad_names(self):
        sheet = sheet_of(a="1a")
        for thing, place in NO_STREAMS:
            for name in ("a", "b"):
                raised = self.check_untouched(sheet, BadStream, put, sheet, name, thing)
                self.assertEqual(raised.place, place)

    def test_what_is_missing(self):
        sheet = sheet_of(a="1a", b="b")
        for thing in odd_things() + ["c", "A", "aa", "", Agreeable("a"), ("a",), ["a"], b"a", {"a": 1}, 0, BOOK]:
            if isinstance(thing, str) and thing in ("a", "b"):
                self.assertIs(thing in sheet, True)
                continue
            self.assertIs(thing in sheet, False)
            for deed, more in ((take, ()), (Sheet.forget, ()), (Sheet.replace, (("a",),)), (Sheet.replace, (None,)),
                               (Sheet.join, ("a",)), (Sheet.join, (None,)), (Sheet.make_lean, ())):
                self.assertIs(self.check_untouched(sheet, Missing, deed, sheet, thing, *more).name, thing)
            self.assertIs(self.check_untouched(sheet, Missing, Sheet.join, sheet, "a", thing).name, thing)
        self.assertEqual(self.check_raised(Missing, Sheet.join, sheet, "c", "d").name, "c")
        self.assertEqual(self.check_raised(Missing, take, Sheet(BOOK), "a").name, "a")
        self.assertIsInstance(raised_by(take, sheet, "c"), KeyError)

    def test_forget(self):
        sheet = sheet_of(a="1a", b="b")
        self.assertIsNone(sheet.forget("a"))
        self.check_view(sheet, b="b")
        self.assertEqual((len(sheet), sheet.names(), "a" in sheet), (1, ("b",), False))
        self.assertEqual(self.check_untouched(sheet, Missing, sheet.forget, "a").name, "a")
        sheet["a"] = ("b",)
        self.check_view(sheet, a="b", b="b")

    def test_sheets_are_not_gone_through(self):
        self.assertIsInstance(raised_by(list, sheet_of(a="a")), TypeError)


class Replace(SheetCase):
    def test_alike_streams_take_the_place(self):
        sheet = sheet_of(a="11a", b="12a", c="a1")
        for name, text in (("a", "1a"), ("a", "1a"), ("b", "21a"), ("c", "a"), ("c", "a1234")):
            self.assertIsNone(sheet.replace(name, words(text)))
            self.assertEqual(sheet[name], words(text))
        self.check_view(sheet, a="1a", b="21a", c="a1234")

    def test_parts(self):
        for one, other, least in (("1a", "2a", 1), ("1a", "a", 1), ("a1b", "ab", 1), ("13a", "31a", 2),
                                  ("1 a", "3 a", 1), ("13a1b", "31a4b", 1)):
            sheet = sheet_of(a=one)
            raised = self.check_untouched(sheet, Parts, sheet.replace, "a", words(other))
            self.assertEqual(len(raised.terminal), least)
            looks = [seen(BOOK, words(text), raised.terminal, raised.entry)[raised.number] for text in (one, other)]
            self.assertNotEqual(looks[0], looks[1])
            self.assertIsInstance(raised, RuntimeError)
            self.check_view(sheet, a=one)

    def test_the_entry_of_parts_is_the_callers_own(self):
        sheet = sheet_of(a="1a")
        first = self.check_raised(Parts, sheet.replace, "a", words("2a"))
        kept = copy.deepcopy(first.entry)
        first.entry["ink"] = "changed"
        first.entry["more"] = ["changed"]
        second = self.check_raised(Parts, sheet.replace, "a", words("2a"))
        self.assertEqual(second.entry, kept)
        self.assertEqual((second.terminal, second.number), (first.terminal, first.number))
        self.assertEqual(first.entry["ink"], "changed")
        self.check_view(sheet, a="1a")

    def test_the_order_of_the_errors(self):
        sheet = sheet_of(a="1a")
        for thing, place in NO_STREAMS:
            self.assertEqual(self.check_untouched(sheet, BadStream, sheet.replace, "a", thing).place, place)
            self.assertEqual(self.check_untouched(sheet, Missing, sheet.replace, "b", thing).name, "b")
        for text in ("", "1", "b", "aa", "a ", "n", "2b"):
            self.check_untouched(sheet, BadQuestion, sheet.replace, "a", words(text))

    def test_random_streams(self):
        chance = random.Random(70)
        told = [0, 0]
        for _ in range(600):
            book = random_book(chance)
            sheet, stream = Sheet(book), random_stream(chance, book, 8)
            sheet["a"] = stream
            other = tuple(item for item in stream if item in "ab \n" or chance.random() < 0.7)
            good = alike(book, stream, other)
            told[good] += 1
            if good:
                sheet.replace("a", other)
            else:
                self.check_untouched(sheet, Parts, sheet.replace, "a", other)
            self.assertEqual(sheet["a"], other if good else stream)
        self.assertGreater(min(told), 50)


class JoinAndLean(SheetCase):
    def test_join(self):
        sheet = sheet_of(a="1a", b="2b", c="")
        self.assertIsNone(sheet.join("a", "b"))
        self.check_view(sheet, a="1a2b", b="2b", c="")
        sheet.join("b", "b")
        sheet.join("c", "a")
        sheet.join("c", "c")
        self.check_view(sheet, a="1a2b", b="2b2b", c="1a2b1a2b")

    def test_200_items_and_one_more(self):
        sheet = Sheet(BOOK)
        sheet["a"], sheet["b"], sheet["c"] = ("a",) * 120, ("1",) * 80, ("b",)
        sheet.join("a", "b")
        self.assertEqual(sheet["a"], ("a",) * 120 + ("1",) * 80)
        for name, other in (("a", "c"), ("c", "a"), ("a", "a")):
            self.assertIsNone(self.check_untouched(sheet, BadStream, sheet.join, name, other).place)
        sheet.undo()
        sheet.join("a", "c")
        self.assertIsNone(self.check_untouched(sheet, BadStream, sheet.join, "a", "b").place)

    def test_make_lean(self):
        sheet = sheet_of(a="11a4b", b="a", c="1234", d="")
        self.assertEqual([sheet.make_lean(name) for name in "abcd"], [1, 0, 4, 0])
        self.check_view(sheet, a="1a4b", b="a", c="", d="")
        self.assertEqual([sheet.make_lean(name) for name in "abcd"], [0] * 4)
        chance = random.Random(71)
        for _ in range(100):
            stream = random_stream(chance, BOOK, 20)
            sheet["a"] = stream
            fewer = sheet.make_lean("a")
            self.assertIs(fewer.__class__, int)
            self.assertEqual((sheet["a"], fewer), (lean(BOOK, stream), len(stream) - len(lean(BOOK, stream))))


class Undo(SheetCase):
    def test_deed_by_deed(self):
        sheet = sheet_of(a="11a")
        sheet["a"] = words("12a")
        sheet.replace("a", words("21a"))
        sheet["b"] = words("b1")
        sheet.join("a", "b")
        sheet.make_lean("a")
        sheet.forget("b")
        for texts in ({"a": "21ab", "b": "b1"}, {"a": "21ab1", "b": "b1"}, {"a": "21a", "b": "b1"}, {"a": "21a"},
                      {"a": "12a"}, {"a": "11a"}, {}):
            self.assertIs(sheet.undo(), True)
            self.check_view(sheet, **texts)
        for _ in range(3):
            self.assertIs(sheet.undo(), False)
        self.check_view(sheet)

    def test_deeds_that_leave_all_as_it_was(self):
        sheet = sheet_of(a="1a", b="")
        sheet["a"] = words("1a")
        sheet.replace("a", words("1a"))
        sheet.make_lean("a")
        sheet.join("a", "b")
        for _ in range(4):
            self.check_view(sheet, a="1a", b="")
            self.assertIs(sheet.undo(), True)
        self.check_view(sheet, a="1a", b="")
        self.assertIs(sheet.undo(), True)
        self.check_view(sheet, a="1a")
        self.assertIs(sheet.undo(), True)
        self.assertIs(sheet.undo(), False)

    def test_an_undo_is_not_taken_back(self):
        sheet = sheet_of(a="a", b="b")
        sheet.undo()
        sheet["c"] = ("c",)
        sheet.undo()
        self.check_view(sheet, a="a")
        sheet.undo()
        self.check_view(sheet)
        self.assertIs(sheet.undo(), False)

    def test_looking_is_no_deed(self):
        sheet = sheet_of(a="a")
        for _ in range(3):
            self.assertEqual((sheet["a"], "a" in sheet, len(sheet), sheet.names(), sheet.book, sheet == Sheet(BOOK)),
                             (("a",), True, 1, ("a",), BOOK, False))
        sheet.undo()
        self.check_view(sheet)


class Trials(SheetCase):
    def test_all_is_as_it_was_behind_the_block(self):
        sheet = sheet_of(a="11a", b="b")
        ahead = undone(sheet)
        with sheet.trial() as held:
            self.assertIs(held, sheet)
            held["c"] = ("c",)
            held.make_lean("a")
            held.forget("b")
            held.join("a", "c")
            self.check_view(sheet, a="1ac", c="c")
        self.assertEqual(undone(sheet), ahead)
        with sheet.trial():
            for _ in range(2):
                self.assertIs(sheet.undo(), True)
            self.assertIs(sheet.undo(), False)
            sheet["d"] = ("d",)
        self.assertEqual(undone(sheet), ahead)
        self.check_view(sheet, a="11a", b="b")

    def test_blocks_that_raise(self):
        sheet = sheet_of(a="1a")
        ahead = undone(sheet)
        error = LookupError("this goes on")
        for raised in (error, KeyboardInterrupt(), Missing("z")):
            with self.assertRaises(raised.__class__) as caught:
                with sheet.trial():
                    sheet.forget("a")
                    raise raised
            self.assertIs(caught.exception, raised)
            self.assertEqual(undone(sheet), ahead)
        with self.assertRaises(Missing):
            with sheet.trial() as held:
                held.forget("a")
                held.forget("a")
        self.assertEqual(undone(sheet), ahead)

    def test_blocks_that_are_left_by_return_and_break(self):
        sheet = sheet_of(a="1a")

        def leave():
            with sheet.trial() as held:
                held["b"] = ("b",)
                return len(held)

        self.assertEqual(leave(), 2)
        for _ in range(3):
            with sheet.trial():
                sheet["c"] = ()
                break
        self.check_view(sheet, a="1a")
        self.assertEqual(len(undone(sheet)), 2)

    def test_trials_in_one_another(self):
        sheet = sheet_of(a="1a")
        with sheet.trial():
            sheet["b"] = ("b",)
            inner = undone(sheet)
            with sheet.trial() as held:
                self.assertIs(held, sheet)
                sheet.undo()
                sheet.undo()
                sheet["c"] = ("c",)
                with self.assertRaises(Missing):
                    with sheet.trial():
                        sheet.forget("c")
                        sheet.forget("c")
                self.check_view(sheet, c="c")
            self.assertEqual(undone(sheet), inner)
            self.check_view(sheet, a="1a", b="b")
        self.check_view(sheet, a="1a")
        self.assertIs(sheet.undo(), True)
        self.assertIs(sheet.undo(), False)

    def test_deeds_between_the_call_and_the_block_stay(self):
        sheet = sheet_of(a="1a")
        trial = sheet.trial()
        sheet["b"] = ("b",)
        with trial:
            sheet.forget("a")
        self.check_view(sheet, a="1a", b="b")
        self.assertEqual(len(undone(sheet)), 3)

    def test_deeds_behind_a_trial(self):
        sheet = sheet_of(a="1a")
        with sheet.trial():
            sheet["b"] = ("b",)
        sheet["c"] = ("c",)
        with sheet.trial():
            sheet.undo()
        self.check_view(sheet, a="1a", c="c")
        sheet.undo()
        self.check_view(sheet, a="1a")

    def test_two_sheets(self):
        one, other = sheet_of(a="a"), sheet_of(a="a")
        with one.trial():
            with other.trial():
                one["b"] = other["c"] = ("b",)
            self.check_view(one, a="a", b="b")
            self.check_view(other, a="a")
        self.check_view(one, a="a")


class Equal(SheetCase):
    def check(self, one, other, told):
        self.assertIs(one == other, told)
        self.assertIs(other == one, told)
        self.assertIs(one != other, not told)

    def test_the_same_streams_of_the_same_names(self):
        self.check(Sheet(BOOK), Sheet(copy.deepcopy(BOOK)), True)
        self.check(sheet_of(a="1a", b="b"), sheet_of(b="b", a="1a"), True)
        self.check(sheet_of(a="1a"), sheet_of(a="2a"), False)
        self.check(sheet_of(a="12a"), sheet_of(a="21a"), False)
        self.check(sheet_of(a="a"), sheet_of(b="a"), False)
        self.check(sheet_of(a="a"), sheet_of(a="a", b="a"), False)
        self.check(sheet_of(a="a"), Sheet(BOOK), False)

    def test_unlike_books(self):
        self.check(Sheet(BOOK), Sheet(told_book()), False)
        self.check(Sheet(BOOK), Sheet((BOOK[0], (), BOOK[2])), False)
        self.check(Sheet(BOOK), Sheet((BOOK[0], BOOK[1], BOOK[2][::-1])), False)

    def test_whatever_can_be_undone(self):
        one, other = sheet_of(a="11a"), sheet_of(a="1a")
        one.make_lean("a")
        self.check(one, other, True)
        one.undo()
        self.check(one, other, False)
        one["b"] = ("b",)
        one.forget("b")
        self.check(one, sheet_of(a="11a"), True)

    def test_a_sheet_and_itself(self):
        sheet = sheet_of(a="a")
        self.check(sheet, sheet, True)

    def test_things_of_other_kinds(self):
        for thing in odd_things() + [BOOK, {"a": ("a",)}, (), ("a",)]:
            self.assertIs(sheet_of(a="a") == thing, False)
        self.assertIs(sheet_of() == Agreeable(), False)
        self.assertIs(Sheet(BOOK) == BOOK, False)


class Under(Given):
    def test_what_the_deed_returns_for_what_the_manager_gives(self):
        sheet = sheet_of(a="1a")
        self.assertIs(under(sheet.trial(), lambda one: one), sheet)
        self.assertEqual(under(sheet.trial(), lambda one: (one.forget("a"), one.names())), (None, ()))
        self.assertEqual(sheet.names(), ("a",))
        self.assertIsNone(under(sheet.trial(), lambda one: None))
        self.assertEqual(under(sheet.trial(), len), 1)

    def test_errors_go_on(self):
        sheet = sheet_of(a="1a")
        self.assertEqual(self.check_raised(Missing, under, sheet.trial(), lambda one: one.forget("b")).name, "b")
        self.check_raised(ZeroDivisionError, under, sheet.trial(), lambda one: one.forget("a") or 1 // 0)
        self.assertEqual(sheet.names(), ("a",))

    def test_the_deed_is_called_once_within_the_block(self):
        log = []

        @contextlib.contextmanager
        def manager():
            log.append("begin")
            yield "given"
            log.append("end")

        self.assertEqual(under(manager(), lambda one: log.append(one) or "told"), "told")
        self.assertEqual(log, ["begin", "given", "end"])

    def test_trials_in_one_another(self):
        sheet = sheet_of(a="1a")

        def deed(one):
            one.forget("a")
            inner = under(one.trial(), lambda two: (two.undo(), two.undo(), two.undo(), two.names()))
            return inner, one.names()

        self.assertEqual(under(sheet.trial(), deed), ((True, True, False, ()), ()))
        self.assertEqual(sheet.names(), ("a",))


class Random(SheetCase):
    def deed(self, chance, sheet, kept):
        """Does something with a sheet and with a dict; whether it was done."""
        name, other = chance.choice("abcd"), chance.choice("abcd")
        stream = random_stream(chance, BOOK, 4)
        choice = chance.choice(["put", "forget", "join", "lean", "replace", "bad"])
        if choice == "put":
            sheet[name] = stream
            kept[name] = stream
        elif choice == "bad":
            self.check_raised(BadStream, put, sheet, name, stream + ("9",))
            return False
        elif name not in kept:
            for wrong in (lambda: sheet.forget(name), lambda: sheet.join(name, other), lambda: sheet.make_lean(name)):
                self.assertEqual(self.check_raised(Missing, wrong).name, name)
            return False
        elif choice == "forget":
            sheet.forget(name)
            del kept[name]
        elif choice == "join":
            joined = kept[name] + kept.get(other, ("a",) * 201)
            if len(joined) > 200:
                self.check_raised(Missing if other not in kept else BadStream, sheet.join, name, other)
                return False
            sheet.join(name, other)
            kept[name] = joined
        elif choice == "lean":
            sheet.make_lean(name)
            kept[name] = lean(BOOK, kept[name])
        else:
            signs = tuple(item for item in kept[name] if item in "ab \n")
            if not alike(BOOK, kept[name], signs):
                self.check_raised(Parts, sheet.replace, name, signs)
                return False
            sheet.replace(name, signs)
            kept[name] = signs
        return True

    def play(self, chance, sheet, past, depth):
        """Plays with a sheet beside a list of the dicts that it should be like, the last one now."""
        for _ in range(chance.randint(3, 12)):
            choice = chance.random()
            if choice < 0.25:
                self.assertIs(sheet.undo(), len(past) > 1)
                past = past[:-1] if len(past) > 1 else past
            elif choice < 0.35 and depth < 3:
                with sheet.trial():
                    self.play(chance, sheet, past, depth + 1)
            else:
                kept = dict(past[-1])
                if self.deed(chance, sheet, kept):
                    past = past + [kept]
            self.assertEqual(view(sheet), past[-1])
            self.assertEqual(len(sheet), len(past[-1]))
            self.assertEqual([name in sheet for name in "abcd"], [name in past[-1] for name in "abcd"])

    def test_random_deeds(self):
        chance = random.Random(72)
        for _ in range(150):
            self.play(chance, Sheet(BOOK), [{}], 0)


if __name__ == "__main__":
    unittest.main()
