"""Tests of the whole program: its interface, and what promise 1 says of all calls."""

import copy
import importlib
import inspect
import pkgutil
import random
import unittest

import stylefall
from stylefall.books import code_of, kinds_of, need_book, need_stream, signs_of
from stylefall.chains import chain_at, form, need_chain, same, told_apart, worth
from stylefall.closing import close_for, closes, is_barred, shortest_close
from stylefall.desk import Desk
from stylefall.errors import BadStream, Missing, Parts, StyleError
from stylefall.freeing import freeing, hangs
from stylefall.likeness import alike, lean, needless, parted
from stylefall.rows import front, is_bar, meets, need_row, need_wishes, row_for, shortest_row, size_of
from stylefall.rules import follow, follows, is_stuck, need_rule
from stylefall.seeing import need_entry, need_terminal, seen
from stylefall.sheet import Sheet, under
from stylefall.texts import book_text, read_book, read_stream, stream_text
from stylefall.wrappers import drawn, drawn_again, is_right, need_tree, need_wrappers, nested, restores, unnested
from tests.things import Given, odd_things, raised_by, told_book

# The functions of each file with their arguments, as the document lists them.
INTERFACE = {
    "books": "need_book(thing) kinds_of(book) code_of(book,word) need_stream(book,thing) signs_of(book,stream)",
    "seeing": "need_terminal(thing) need_entry(book,thing) seen(book,stream,terminal,entry)",
    "chains": "need_chain(thing) worth(chain,terminal) form(chain) same(one,other) chain_at(book,stream,place,aspect) "
              "told_apart(one,other)",
    "likeness": "alike(book,one,other) parted(book,one,other) needless(book,stream) lean(book,stream)",
    "freeing": "hangs(book,stream,terminal) freeing(book,stream)",
    "rules": "need_rule(thing) follows(chain,rule) follow(rule) is_stuck(rule,thing)",
    "rows": "need_row(book,thing) size_of(book,row) front(book,row) need_wishes(book,thing,free=()) "
            "meets(book,wishes,row,free=()) row_for(book,wishes,free=()) is_bar(book,wishes,thing,free=()) "
            "shortest_row(book,wishes,free=())",
    "wrappers": "need_wrappers(book,thing) need_tree(book,wrappers,thing) drawn(book,wrappers,tree) "
                "drawn_again(book,wrappers,tree) is_right(book,wrappers,tree,again=False) "
                "restores(book,wrappers,number,under=None) nested(book,wrappers) unnested(book,wrappers)",
    "closing": "closes(book,row,other) close_for(book,row) is_barred(book,row,thing) shortest_close(book,row)",
    "texts": "stream_text(book,stream) read_stream(book,string) book_text(book) read_book(string)",
    "sheet": "under(manager,deed)",
}
CLASSES = {
    ("sheet", "Sheet"): "__init__ __getitem__ __setitem__ __contains__ __len__ __eq__ forget names replace join "
                        "make_lean undo trial",
    ("desk", "Desk"): "__init__ say",
}
BOOK = told_book()
STREAM = ("33", "38;5;208", "a", "39", " ", "b")
ALIKE = ("1", "33", "33", "a")
ENTRY = {"weight": "plain", "ink": "red"}
CHAIN = (("many", "orange"), ("basic", "yellow"))
RULE = ((("basic",), "yellow"), (("basic", "many"), "orange"))
STUCK = ((("a",), "x"), (("a", "b"), "y"), (("b",), "x"))
WISHES = (("ink", CHAIN),)
WRAPPERS = ((("1",), ("0",)), (("33",), ("39",)))
TREE = ("a", (0, ("b", (1, (" ",)), "c")))
CALLS = (
    (need_book, BOOK), (kinds_of, BOOK), (code_of, BOOK, "33"), (need_stream, BOOK, STREAM), (signs_of, BOOK, STREAM),
    (need_terminal, ("basic", "many")), (need_entry, BOOK, ENTRY), (seen, BOOK, STREAM, ("basic",), ENTRY),
    (need_chain, CHAIN), (worth, CHAIN, ("basic",)), (form, CHAIN), (same, CHAIN, CHAIN[::-1]),
    (chain_at, BOOK, STREAM, 2, "ink"), (told_apart, CHAIN, CHAIN[::-1]), (alike, BOOK, ALIKE, ("1", "33", "a")),
    (parted, BOOK, ALIKE, ("a",)), (parted, BOOK, ALIKE, ALIKE), (needless, BOOK, ALIKE), (lean, BOOK, ALIKE),
    (hangs, BOOK, STREAM, ("basic",)), (freeing, BOOK, ALIKE), (freeing, BOOK, STREAM), (need_rule, RULE),
    (follows, CHAIN, RULE), (follow, RULE), (follow, STUCK), (is_stuck, STUCK, (("a",), ("a", "b"), ("b",))),
    (need_row, BOOK, ("33", "1")), (size_of, BOOK, ("33", "1")), (front, BOOK, ("33", "1")),
    (need_wishes, BOOK, WISHES),
    (meets, BOOK, WISHES, ("33", "38;5;208"), ("weight",)), (row_for, BOOK, WISHES),
    (row_for, BOOK, WISHES, ("weight",)),
    (row_for, BOOK, (("ink", (("basic", "orange"),)),)), (is_bar, BOOK, (("ink", (("basic", "orange"),)),), ()),
    (shortest_row, BOOK, WISHES, ("weight",)), (need_wrappers, BOOK, WRAPPERS), (need_tree, BOOK, WRAPPERS, TREE),
    (drawn, BOOK, WRAPPERS, TREE), (drawn_again, BOOK, WRAPPERS, TREE), (is_right, BOOK, WRAPPERS, TREE, True),
    (restores, BOOK, WRAPPERS, 0, 1), (nested, BOOK, WRAPPERS), (unnested, BOOK, WRAPPERS),
    (closes, BOOK, ("33",), ("39",)), (close_for, BOOK, ("33", "1")), (close_for, BOOK, ("38;5;208",)),
    (is_barred, BOOK, ("38;5;208",), ("0", "1", "33", "39")), (shortest_close, BOOK, ("33", "1")),
    (stream_text, BOOK, STREAM), (read_stream, BOOK, "[33]a"), (book_text, BOOK), (read_book, book_text(BOOK)))


def spoil(thing):
    """Changes all that can be changed in what a call has returned."""
    if isinstance(thing, dict):
        for part in list(thing.values()):
            spoil(part)
        thing.clear()
        thing["spoiled"] = "spoiled"
    elif isinstance(thing, list):
        for part in thing:
            spoil(part)
        thing.append("spoiled")
    elif isinstance(thing, tuple):
        for part in thing:
            spoil(part)


class Interface(unittest.TestCase):
    def test_each_function_is_defined_in_its_file_with_its_arguments(self):
        for name, listed in INTERFACE.items():
            module = importlib.import_module("stylefall." + name)
            for told in listed.split(" "):
                function = getattr(module, told.split("(")[0])
                self.assertTrue(inspect.isfunction(function), told)
                self.assertEqual(function.__module__, module.__name__, told)
                self.assertEqual(function.__name__ + str(inspect.signature(function)).replace(" ", ""), told)

    def test_each_method_is_defined_in_its_class_and_this_in_its_file(self):
        for (name, told), methods in CLASSES.items():
            kept = getattr(importlib.import_module("stylefall." + name), told)
            self.assertTrue(inspect.isclass(kept))
            self.assertEqual(kept.__module__, "stylefall." + name)
            for method in methods.split(" "):
                self.assertTrue(inspect.isfunction(vars(kept)[method]), method)
        self.assertIsInstance(vars(Sheet)["book"], property)
        self.assertIsInstance(vars(Desk)["sheet"], property)

    def test_no_file_is_missing_and_each_one_can_be_imported(self):
        files = sorted(name for _, name, _ in pkgutil.iter_modules(stylefall.__path__))
        self.assertEqual(files, sorted([*INTERFACE, "errors", "desk", "taking"]))
        for name in files:
            importlib.import_module("stylefall." + name)


class AllCalls(Given):
    def test_each_function_is_called_here(self):
        called = {call[0].__name__ for call in CALLS}
        listed = {told.split("(")[0] for text in INTERFACE.values() for told in text.split(" ")}
        self.assertEqual(called, listed - {"under"})

    def test_no_argument_is_changed_and_equal_calls_return_equal_results(self):
        for deed, *told in CALLS:
            kept = copy.deepcopy(told)
            first = deed(*told)
            self.assertEqual(told, kept, deed)
            self.assertEqual(deed(*copy.deepcopy(kept)), first, deed)
            self.assertEqual(deed(*told), first, deed)

    def test_what_a_call_returns_is_the_callers_own(self):
        for deed, *told in CALLS:
            if deed.__name__.startswith("need_"):
                self.assertIs(deed(*told), told[-1])
                continue
            first = deed(*told)
            kept = copy.deepcopy(first)
            spoil(first)
            self.assertEqual(deed(*told), kept, deed)

    def test_later_changes_to_an_entry_have_no_effect(self):
        entry = dict(ENTRY)
        pairs = seen(BOOK, STREAM, ("many",), entry)
        entry.clear()
        self.assertEqual(pairs, seen(BOOK, STREAM, ("many",), ENTRY))
        self.assertEqual(ENTRY, {"weight": "plain", "ink": "red"})

    def test_the_order_of_calls_means_nothing(self):
        chance = random.Random(90)
        results = [deed(*told) for deed, *told in CALLS]
        for _ in range(5):
            for at in chance.sample(range(len(CALLS)), len(CALLS)):
                deed, *told = CALLS[at]
                self.assertEqual(deed(*told), results[at])

    def test_calls_that_raise_change_no_argument(self):
        for deed, *told in CALLS:
            for place in range(len(told)):
                for thing in ([], ["a"], {"a": ["a"]}, (["a"],), [("a", ["a"])]):
                    given = told[:place] + [thing] + told[place + 1:]
                    kept = copy.deepcopy(given)
                    raised = raised_by(deed, *given)
                    self.assertEqual(given, kept, deed)
                    if not deed.__name__.startswith("is_") or place < len(given) - 1:
                        self.assertIsInstance(raised, StyleError, (deed, given))

    def test_all_errors_are_of_the_document(self):
        """Whatever stands in the place of any argument of a function, an error of stylefall is raised, or none."""
        for deed, *told in CALLS:
            for place in range(len(told)):
                for thing in odd_things():
                    if deed is is_right and place == 3:
                        continue
                    raised = raised_by(deed, *told[:place], thing, *told[place + 1:])
                    self.assertIsInstance(raised, (StyleError, None.__class__), (deed, place))


class Sheets(Given):
    def test_what_a_sheet_returns_is_the_callers_own(self):
        sheet = Sheet(BOOK)
        sheet["a"] = ALIKE
        kept = (sheet.names(), sheet["a"], sheet.book)
        for thing in kept:
            spoil(thing)
        self.assertEqual((sheet.names(), sheet["a"], sheet.book), (("a",), ALIKE, BOOK))

    def test_what_a_call_raised_is_kept_by_none(self):
        desk = Desk(book_text(BOOK))
        desk.say("put a [33]a")
        for _ in range(2):
            raised = self.check_raised(Parts, desk.sheet.replace, "a", ("1", "33", "a"))
            self.assertEqual(sorted(raised.entry), ["ink", "weight"])
            spoil(raised.entry)
            self.assertEqual(desk.say("replace a [1][33]a"), "parts basic 0")
        self.assertEqual(desk.say("show a"), "[33]a")

    def test_calls_for_which_nothing_is_said_to_be_returned(self):
        sheet = Sheet(BOOK)
        self.assertIsNone(sheet.__setitem__("a", ALIKE))
        self.assertIsNone(sheet.replace("a", ("1", "33", "a")))
        self.assertIsNone(sheet.join("a", "a"))
        self.assertIsNone(sheet.forget("a"))

    def test_names_and_streams_that_are_not_kept_by_a_sheet(self):
        sheet = Sheet(BOOK)
        thing = ["a"]
        self.assertIs(self.check_raised(Missing, sheet.forget, thing).name, thing)
        self.check_raised(BadStream, sheet.__setitem__, "a", thing)
        thing.append("b")
        self.assertEqual((len(sheet), sheet.undo()), (0, False))
        self.assertEqual(under(sheet.trial(), lambda one: one.names()), ())


if __name__ == "__main__":
    unittest.main()
