"""Tests of stylefall.desk: its lines and answers, and promises 1, 7 to 9 and 17 to 19 for them."""

import random
import unittest

from stylefall.closing import close_for
from stylefall.desk import Desk
from stylefall.errors import BadBook, BadText, Parts
from stylefall.freeing import freeing, hangs
from stylefall.likeness import alike, lean, parted
from stylefall.sheet import Sheet
from stylefall.texts import book_text, read_stream, stream_text
from tests.things import Given, full_book, odd_things, random_book, random_stream, told_book

BOOK = (("ink", "weight"), ("ink",), (
    ("1", "k", (("ink", "red"), ("weight", "thin"))), ("2", "l", (("ink", "red"), ("weight", "thin"))),
    ("3", "m", (("ink", "blue"), ("weight", "bold"))), ("4", "k", (("weight", "bold"),)),
    ("5;5", "k", (("ink", "plain"),)), ("6", "k", (("weight", "plain"),))))


def desk_of(book, *lines):
    """A desk of the book behind lines all of which are done."""
    desk = Desk(book_text(book))
    for line in lines:
        assert desk.say(line) == "done", line
    return desk


def past_of(sheet):
    """All that is kept, and what is kept after each undo."""
    with sheet.trial():
        views = [[(name, sheet[name]) for name in sheet.names()]]
        while sheet.undo():
            views.append([(name, sheet[name]) for name in sheet.names()])
    return views


class DeskCase(Given):
    def check_no(self, desk, *lines):
        """The lines are answered with "no" and change nothing."""
        ahead = past_of(desk.sheet)
        for line in lines:
            self.assertEqual(desk.say(line), "no", line)
            self.assertEqual(past_of(desk.sheet), ahead)

    def check_says(self, desk, *pairs):
        for line, answer in pairs:
            self.assertEqual(desk.say(line), answer, line)


class Desks(DeskCase):
    def test_the_sheet_is_empty_and_the_very_one(self):
        desk = Desk(book_text(BOOK))
        self.assertEqual(desk.sheet, Sheet(BOOK))
        self.assertIs(desk.sheet, desk.sheet)
        self.assertIs(desk.sheet.undo(), False)
        desk.sheet["a"] = ("1", "a")
        self.assertEqual(desk.say("show a"), "[1]a")
        self.assertEqual(desk.say("put b b"), "done")
        self.assertEqual(desk.sheet["b"], ("b",))
        self.assertIs(desk.sheet.undo(), True)
        self.check_says(desk, ("names", "a"), ("undo", "done"), ("names", "none"))

    def test_two_desks_have_sheets_of_their_own(self):
        one, other = Desk("a\n-"), Desk("a\n-")
        one.say("put a a")
        self.assertEqual(other.say("names"), "none")
        self.assertIsNot(one.sheet, other.sheet)

    def test_texts_of_books(self):
        for book in (BOOK, told_book(), full_book(), (("a",), (), ())):
            self.assertEqual(Desk(book_text(book)).sheet.book, book)
        for text, place in (("", 0), ("a", 1), ("a\n", 2), ("a\n-\n", 4), ("a\n-\n1 k", 7), ("A", 0), ("a -", 2)):
            self.assertEqual(self.check_raised(BadText, Desk, text).place, place)
        for thing in odd_things():
            if not isinstance(thing, str):
                self.assertIsNone(self.check_raised(BadText, Desk, thing).place)
        for text, place in (("b a\n-", "aspects"), ("a\nb", "shown"), ("a\n-\n1 k b=x", 0),
                            ("a\n-\n1 k a=x\n1 k a=x", 1)):
            self.assertEqual(self.check_raised(BadBook, Desk, text).place, place)
        self.assertEqual(self.check_raised(BadText, Desk, "b a\n-\n").place, 6)


class PutAndShow(DeskCase):
    def test_written_forms(self):
        desk = Desk(book_text(BOOK))
        for form, stream in (("[1]a", ("1", "a")), ("", ()), (" ", (" ",)), ("  ", (" ", " ")), ("a ", ("a", " ")),
                             (" a", (" ", "a")), ("a  b", ("a", " ", " ", "b")), ("/", ("\n",)),
                             ("a/b", ("a", "\n", "b")),
                             ("//", ("\n", "\n")), (" / ", (" ", "\n", " ")), ("[5;5] [1]/", ("5;5", " ", "1", "\n")),
                             ("put a b", tuple("put a b")), ("a" * 200, ("a",) * 200)):
            for name in ("a", "abcdefgh"):
                self.assertEqual(desk.say(f"put {name} {form}"), "done")
                self.assertEqual(desk.sheet[name], stream)
                self.assertEqual(desk.say(f"show {name}"), form)

    def test_forms_and_names_that_are_none(self):
        desk = desk_of(BOOK, "put a [1]a")
        self.check_no(
            desk, "put b a\n", "put b \n", "put b [9]", "put b [1", "put b 1", "put b A", "put b [1/]", "put b [/1]",
            "put b a-", "put b " + "a" * 201, "put A a", "put 1 a", "put abcdefghi a", "put  a", "put  a a", "put / a",
            "put b", "put", "put ", "put b\na", "putb a", "put b/a", "put\nb a", "put b a\nput c c", "Put b a",
            " put b a",
            "put [1]a", "put [1]a a")

    def test_show(self):
        desk = desk_of(BOOK, "put a [1]a")
        self.check_says(desk, ("show a", "[1]a"))
        self.check_no(desk, "show b", "show", "show ", "show a ", "show  a", " show a", "show a a", "show A", "shows a",
                      "show a\n", "show\na", "sho a", "show 1")
        self.assertEqual(desk.say("undo"), "done")
        self.assertEqual(desk.say("undo"), "nothing")

    def test_what_is_put_twice(self):
        desk = desk_of(BOOK, "put a a", "put a b")
        self.check_says(desk, ("show a", "b"), ("undo", "done"), ("show a", "a"), ("undo", "done"), ("show a", "no"))


class Replace(DeskCase):
    def test_done_or_parts(self):
        desk = desk_of(BOOK, "put a [1]a/ b", "replace a [1][1]a/ b")
        self.check_says(desk, ("show a", "[1][1]a/ b"), ("replace a a/ b", "parts k 0"), ("show a", "[1][1]a/ b"))
        self.assertEqual(len(past_of(desk.sheet)), 3)
        desk = desk_of(BOOK, "put a [1][2][3][1]a", "replace a [2][3][1]a")
        desk = desk_of(BOOK, "put a a[1][3]b")
        self.check_says(desk, ("replace a a[3][1]b", "parts k m 1"), ("show a", "a[1][3]b"))
        desk = desk_of(BOOK, "put a ")
        self.check_says(desk, ("replace a ", "done"), ("replace a [1]", "done"), ("show a", "[1]"))
        desk = desk_of(BOOK, "put a  ")
        self.check_says(desk, ("replace a  ", "done"), ("replace a [4] ", "done"), ("show a", "[4] "))

    def test_what_can_not_be_done(self):
        desk = desk_of(BOOK, "put a [1]a")
        self.check_no(desk, "replace b [1]a", "replace a [1]b", "replace a ", "replace a", "replace", "replace a [1]a ",
                      "replace a  [1]a", "replace  a [1]a", "replace a [9]a", "replace a [1", "replace a [1]a\n",
                      " replace a [1]a", "replace A [1]a", "replacea [1]a", "replace a /a")
        self.assertEqual(past_of(desk.sheet)[1:], [[]])

    def test_random_streams(self):
        chance = random.Random(80)
        told = {}
        for _ in range(300):
            book = random_book(chance)
            stream = random_stream(chance, book, 8)
            other = tuple(item for item in stream if item in "ab \n" or chance.random() < 0.8)
            forms = [stream_text(book, one).replace("\n", "/") for one in (stream, other)]
            desk = desk_of(book, f"put a {forms[0]}")
            parting = parted(book, stream, other)
            answer = desk.say(f"replace a {forms[1]}")
            told[answer[:4]] = told.get(answer[:4], 0) + 1
            if parting is None:
                self.assertEqual(answer, "done")
            else:
                known, number = answer.split(" ")[1:-1], int(answer.split(" ")[-1])
                self.assertEqual(answer, " ".join(["parts", *known, str(number)]))
                self.assertEqual(len(known), len(parting[0]))
                with self.assertRaises(Parts) as caught:
                    desk.sheet.replace("a", other)
                self.assertEqual((caught.exception.terminal, caught.exception.number), (tuple(known), number))
            self.assertEqual(desk.say("show a"), forms[parting is None])
            self.assertEqual(desk.say("alike a a"), "yes")
        self.assertGreater(min(told.values()), 30)


class OtherDeeds(DeskCase):
    def test_forget_and_join(self):
        desk = desk_of(BOOK, "put a [1]a", "put b b/", "join a b", "join b b", "forget b")
        self.check_says(desk, ("show a", "[1]ab/"), ("show b", "no"), ("names", "a"), ("forget a", "done"),
                        ("names", "none"),
                        ("undo", "done"), ("undo", "done"), ("show b", "b/b/"), ("undo", "done"), ("show b", "b/"))
        self.check_no(desk, "forget", "forget c", "forget a b", "forget a ", "forget  a", "forget ", "join", "join a",
                      "join a c", "join c a", "join a b a", "join a  b", "join a b ", "join  a b", "join a ",
                      "join c c")

    def test_join_with_200_items_and_more(self):
        desk = desk_of(BOOK, "put a " + "a" * 100, "put b b", "join a a")
        self.check_no(desk, "join a b", "join b a", "join a a")

    def test_lean(self):
        desk = desk_of(BOOK, "put a [1][1]a", "put b [1][2][3]", "put c a")
        self.check_says(desk, ("lean a", "1"), ("show a", "[1]a"), ("lean a", "0"), ("lean b", "3"), ("show b", ""),
                        ("lean c", "0"), ("undo", "done"), ("undo", "done"), ("show b", "[1][2][3]"))
        self.check_no(desk, "lean", "lean d", "lean a a", "lean a ", "lean  a", "lean ", "LEAN a")

    def test_alike(self):
        desk = desk_of(BOOK, "put a [1][1]a", "put b [1]a", "put c a", "put d [1]b", "put e [1][2]a", "put f [2][1]a")
        self.check_says(desk, ("alike a b", "yes"), ("alike a c", "no"), ("alike a a", "yes"), ("alike e f", "yes"))
        self.check_no(desk, "alike a d", "alike b c", "alike a", "alike", "alike a b c", "alike a  b", "alike a b ",
                      "alike a g", "alike g a", "alike  a b")

    def test_free(self):
        desk = desk_of(BOOK, "put a [1][2]a", "put b [1]b[2]c", "put c ", "put d a", "put e [3][2][1]a", "put f /",
                       "put g [3][4]a", "put h [4][5;5]a[3]/ ")
        self.check_says(desk, ("free a", "k; l"), ("free b", "k"), ("free c", "-"), ("free d", "never"),
                        ("free e", "k; l; m"), ("free f", "-"), ("free g", "m"), ("free h", "k"))
        two = (("a", "b"), (), (("1", "k", (("a", "x"),)), ("2", "l", (("b", "x"),)),
                                ("3", "m", (("a", "x"), ("b", "y")))))
        self.check_says(desk_of(two, "put a [1][2][3]a"), ("free a", "k l; m"))
        self.check_no(desk, "free", "free z", "free a a", "free a ", "free  a", "free ")

    def test_hangs(self):
        desk = desk_of(BOOK, "put a a[1]b[4]/ c", "put b [1]a", "put c ", "put d " + "a" * 12)
        self.check_says(desk, ("hangs a", "0 1 3 4"), ("hangs a k", "0"), ("hangs a k l m", "0"),
                        ("hangs a l m", "0 1 3 4"),
                        ("hangs b", "0"), ("hangs b k", "-"), ("hangs b a b k z", "-"), ("hangs c", "-"),
                        ("hangs c k", "-"), ("hangs d", "0 1 2 3 4 5 6 7 8 9 10 11"),
                        ("hangs b a b c d e f g h i j l m", "0"), ("hangs b a b c d e f g h i j k l", "-"))
        self.check_no(desk, "hangs", "hangs z", "hangs z k", "hangs a l k", "hangs a k k", "hangs a K", "hangs a 1",
                      "hangs a k ", "hangs a  k", "hangs a ", "hangs  a k", "hangs ", "hangs a k  l",
                      "hangs a abcdefghi",
                      "hangs b a b c d e f g h i j k l m")

    def test_close(self):
        desk = Desk(book_text(BOOK))
        self.check_says(desk, ("close 4", "6"), ("close 4 6", "-"), ("close 5;5", "-"), ("close 2", "never"),
                        ("close 1 3", "never"), ("close 5;5 6 5;5", "-"), ("close " + " ".join(["4"] * 60), "6"))
        row = desk.say("close 1").split(" ")
        self.assertEqual(sorted(row), ["5;5", "6"])
        self.assertEqual(("row", tuple(row)), close_for(BOOK, ("1",)))
        self.check_no(desk, "close", "close ", "close 7", "close 4 7", "close 4 ", "close  4", "close 4  6",
                      "close [4]",
                      "close k", "close " + " ".join(["4"] * 61), "close 4\n", "close 5")
        self.check_says(desk, ("undo", "nothing"), ("names", "none"))

    def test_names(self):
        desk = desk_of(BOOK, "put b b", "put abcdefgh a", "put a a")
        self.check_says(desk, ("names", "a abcdefgh b"), ("forget a", "done"), ("names", "abcdefgh b"))
        self.check_no(desk, "names ", " names", "names a", "names  ", "Names", "name", "names\n")
        self.check_says(Desk(book_text(BOOK)), ("names", "none"))

    def test_undo(self):
        desk = desk_of(BOOK, "put a [1][1]a", "put b b", "put b b")
        self.check_says(desk, ("show c", "no"), ("alike a b", "no"), ("lean a", "1"), ("undo", "done"),
                        ("show a", "[1][1]a"),
                        ("undo", "done"), ("names", "a b"), ("undo", "done"), ("names", "a"), ("undo", "done"),
                        ("undo", "nothing"), ("undo", "nothing"), ("names", "none"))
        self.check_no(desk_of(BOOK, "put a a"), "undo ", " undo", "undo a", "undo 1", "Undo", "undo\n", "undoo", "und")


class Lines(DeskCase):
    def test_what_is_no_line(self):
        desk = desk_of(BOOK, "put a [1]a", "put names a", "put undo b")
        self.check_no(desk, "", " ", "  ", "\n", "a", "a b c", "do", "put\n", "names\nundo", "undo\nundo", "/", "[1]",
                      "-",
                      "get a", "size", "list", "show/a", "sheet", "say names", "book", "none", "no", "__init__",
                      "trial")

    def test_what_is_no_string(self):
        desk = desk_of(BOOK, "put a [1]a")
        self.check_no(desk, *[thing for thing in odd_things() if not isinstance(thing, str)],
                      b"names", ("names",), ["names"], ["show", "a"], 0)

    def test_each_answer_is_a_string(self):
        desk = desk_of(BOOK, "put a [1]a")
        for line in ("put b b", "replace a [1]a", "show a", "forget b", "join a a", "lean a", "alike a a", "free a",
                     "hangs a",
                     "close 1", "names", "undo", "no such line", None):
            self.assertIs(desk.say(line).__class__, str)

    def test_spaces_at_all_places(self):
        """A space more or fewer makes a line none, but within a written form."""
        lines = ("show a", "forget a", "join a b", "lean a", "alike a b", "free a", "hangs a k l", "close 1 4",
                 "names", "undo")
        for line in lines:
            for place in range(len(line) + 1):
                desk = desk_of(BOOK, "put a [1]a", "put b a")
                self.check_no(desk, line[:place] + " " + line[place:], line[:place] + "\n" + line[place:])
                shorter = line[:place] + line[place + 1:]
                if line[place:place + 1] == " " and shorter != "hangs a kl":
                    self.check_no(desk, shorter)

    def test_random_lines(self):
        """Lines out of some words are answered as the functions of the package tell."""
        chance = random.Random(81)
        known = ["put", "replace", "show", "forget", "join", "lean", "alike", "free", "hangs", "close", "names", "undo"]
        others = ["a", "b", "a", "b", "k", "l", "1", "4", "", "[1]a", "[4]", "z"]
        told = {}
        for _ in range(60):
            desk = desk_of(BOOK, "put a [1][1]a", "put b a")
            for _ in range(40):
                line = " ".join([chance.choice(known)] + [chance.choice(others) for _ in range(chance.randint(0, 3))])
                ahead = past_of(desk.sheet)
                want = wanted(desk.sheet, line)
                self.assertEqual(desk.say(line), want, line)
                if want == "no":
                    self.assertEqual(past_of(desk.sheet), ahead)
                told[line.split(" ")[0], want == "no"] = True
        self.assertGreaterEqual(len(told), 2 * len(known))


def wanted(sheet, line):
    """The answer to a line, by the words of the document; it changes nothing."""
    book, kept = sheet.book, {name: sheet[name] for name in sheet.names()}
    first, *rest = line.split(" ")
    if first in ("put", "replace"):
        if len(rest) < 2:
            return "no"
        name, form = rest[0], " ".join(rest[1:])
        try:
            stream = read_stream(book, form.replace("/", "\n"))
        except ValueError:
            return "no"
        if first == "put":
            return "done" if name.isalpha() else "no"
        if name not in kept or [item for item in stream if item.isalpha()] != [
                item for item in kept[name] if item.isalpha()] or " " in stream:
            return "no"
        parting = parted(book, kept[name], stream)
        return "done" if parting is None else " ".join(["parts", *parting[0], str(parting[2])])
    if "" in rest:
        return "no"
    if first == "close":
        if not rest or not set(rest) <= {"1", "4"}:
            return "no"
        name, row = close_for(book, tuple(rest))
        return (" ".join(row) or "-") if name == "row" else "never"
    if first in ("names", "undo"):
        if rest:
            return "no"
        if first == "names":
            return " ".join(sorted(kept)) or "none"
        return "done" if len(past_of(sheet)) > 1 else "nothing"
    return wanted_of_kept(book, kept, first, rest)


def wanted_of_kept(book, kept, first, rest):
    """The answer to a line whose second word is the name of a stream."""
    if not rest or rest[0] not in kept:
        return "no"
    stream = kept[rest[0]]
    if first == "hangs":
        if rest[1:] != sorted(set(rest[1:])) or not all(kind.isalpha() for kind in rest[1:]):
            return "no"
        return " ".join(str(number) for number in hangs(book, stream, tuple(rest[1:]))) or "-"
    if first in ("join", "alike"):
        if len(rest) != 2 or rest[1] not in kept:
            return "no"
        other = kept[rest[1]]
        if first == "join":
            return "done" if len(stream + other) <= 200 else "no"
        if [item for item in stream if item.isalpha()] != [item for item in other if item.isalpha()]:
            return "no"
        return "yes" if alike(book, stream, other) else "no"
    if len(rest) != 1:
        return "no"
    if first == "free":
        return "; ".join(" ".join(kinds) or "-" for kinds in freeing(book, stream)) or "never"
    if first == "lean":
        return str(len(stream) - len(lean(book, stream)))
    return "done" if first == "forget" else stream_text(book, stream).replace("\n", "/")


if __name__ == "__main__":
    unittest.main()
