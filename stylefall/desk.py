"""A desk: a sheet that is told line by line what to do, and answers with a line."""

from stylefall.closing import close_for
from stylefall.errors import Missing, Parts, StyleError
from stylefall.freeing import freeing, hangs
from stylefall.likeness import alike
from stylefall.sheet import Sheet
from stylefall.texts import read_book, read_stream, stream_text


def stream_of(sheet, text):
    """The stream with a written form that has "/" for line ends."""
    return read_stream(sheet.book, text.replace("/", "\n"))


def answer_of(words, none):
    """The words with a space between two, or what is said if there are none."""
    return " ".join(words) if len(words) > 0 else none


def do_put(sheet, name, text):
    """Keeps a stream by the name."""
    sheet[name] = stream_of(sheet, text)
    return "done"


def do_replace(sheet, name, text):
    """Puts an alike stream in the place of that of the name."""
    stream = stream_of(sheet, text)
    try:
        sheet.replace(name, stream)
    except Parts as parting:
        return " ".join(["parts", *parting.terminal, str(parting.number)])
    return "done"


def do_show(sheet, name):
    """The written form of the stream of the name."""
    return stream_text(sheet.book, sheet[name]).replace("\n", "/")


def do_forget(sheet, name):
    """Keeps the stream of the name no more."""
    sheet.forget(name)
    return "done"


def do_join(sheet, name, other):
    """Puts the stream of the other name behind that of the name."""
    sheet.join(name, other)
    return "done"


def do_lean(sheet, name):
    """Makes the stream of the name lean; how many items fewer it has."""
    return str(sheet.make_lean(name))


def do_alike(sheet, name, other):
    """Whether the streams of two names are alike."""
    return "yes" if alike(sheet.book, sheet[name], sheet[other]) else "no"


def do_free(sheet, name):
    """The least sets of kinds that free the stream of the name."""
    sets = [answer_of(kinds, "-") for kinds in freeing(sheet.book, sheet[name])]
    return "; ".join(sets) if len(sets) > 0 else "never"


def do_hangs(sheet, name, *kinds):
    """The numbers of the signs at which the stream of the name hangs on the terminal of these kinds."""
    return answer_of([str(number) for number in hangs(sheet.book, sheet[name], kinds)], "-")


def do_close(sheet, *words):
    """A row that closes the row of these words."""
    found, row = close_for(sheet.book, words)
    return answer_of(row, "-") if found == "row" else "never"


def do_names(sheet):
    """The names of all streams."""
    return answer_of(sheet.names(), "none")


def do_undo(sheet):
    """Takes the last deed back."""
    return "done" if sheet.undo() else "nothing"


DEEDS = {
    "put": do_put, "replace": do_replace, "show": do_show, "forget": do_forget, "join": do_join, "lean": do_lean,
    "alike": do_alike, "free": do_free, "hangs": do_hangs, "close": do_close, "names": do_names, "undo": do_undo}
# How many words stand behind the first one; of those with None there is one at least.
MANY = {
    "put": 2, "replace": 2, "show": 1, "forget": 1, "join": 2, "lean": 1, "alike": 2, "free": 1, "hangs": None,
    "close": None, "names": 0, "undo": 0}


def words_in(line):
    """The words of a line; a written form, which may have spaces of its own, is taken for one of them."""
    if line.startswith("put ") or line.startswith("replace "):
        return line.split(" ", 2)
    return line.split(" ")


def is_line(words):
    """Whether there is a deed with the first of the words, and so many others as it takes."""
    if words[0] not in DEEDS:
        return False
    many = MANY[words[0]]
    if many is None:
        return len(words) > 1
    return len(words) == many + 1


class Desk:
    """A desk with a sheet of the book whose written form is told."""

    def __init__(self, text):
        self._sheet = Sheet(read_book(text))

    @property
    def sheet(self):
        """The sheet itself."""
        return self._sheet

    def say(self, line):
        """What is answered to the line: "no" to what is none or can't be done."""
        if not isinstance(line, str) or "\n" in line:
            return "no"
        words = words_in(line)
        if not is_line(words):
            return "no"
        first, *rest = words
        deed = DEEDS[first]
        try:
            return deed(self._sheet, *rest)
        except (StyleError, Missing):
            return "no"
