"""Sheets: streams of one book that are kept by names, and what can be done with them and undone."""

from stylefall.books import is_name, need_book, need_stream
from stylefall.errors import BadQuestion, Missing, Parts
from stylefall.likeness import lean, parted


class Trial:
    """A with statement over a sheet, behind whose block all is as it was ahead of it."""

    def __init__(self, sheet):
        self._sheet = sheet
        self._streams = {}
        self._past = []

    def __enter__(self):
        self._streams = dict(self._sheet._streams)
        self._past = list(self._sheet._past)
        return self._sheet

    def __exit__(self, *told):
        self._sheet._streams = self._streams
        self._sheet._past = self._past


class Sheet:
    """Streams of a book, each by a name.

    What has been done is kept deed by deed: the name, and the stream that it had ahead, or None.
    """

    def __init__(self, book):
        self._book = need_book(book)
        self._streams = {}
        self._past = []

    @property
    def book(self):
        """The book of all streams."""
        return self._book

    def __getitem__(self, at):
        """The stream of this name."""
        if not isinstance(at, str) or at not in self._streams:
            raise Missing(at)
        return self._streams[at]

    def __iter__(self):
        raise TypeError("a sheet is not gone through: ask for its names")

    def __setitem__(self, at, worth):
        """Keeps a stream by this name."""
        if not is_name(at):
            raise BadQuestion("this is no name")
        self._change(at, need_stream(self._book, worth))

    def __contains__(self, x):
        return isinstance(x, str) and x in self._streams

    def __len__(self):
        return len(self._streams)

    def __eq__(self, other):
        return isinstance(other, Sheet) and self._book == other._book and self._streams == other._streams

    def names(self):
        """The ascending tuple of the names."""
        return tuple(sorted(self._streams))

    def _put(self, name, stream):
        """Gives the name this stream, or takes the name away with None."""
        if stream is None:
            del self._streams[name]
        else:
            self._streams[name] = stream

    def _change(self, name, stream):
        """Does the same as a deed that can be undone."""
        self._past.append((name, self._streams.get(name)))
        self._put(name, stream)

    def forget(self, name):
        """Keeps the stream of the name no more."""
        if name not in self:
            raise Missing(name)
        self._change(name, None)

    def replace(self, name, stream):
        """Puts an alike stream in the place of that of the name."""
        parting = parted(self._book, self[name], stream)
        if parting is not None:
            terminal, entry, number = parting
            raise Parts(terminal, entry, number)
        self._change(name, stream)

    def join(self, name, other):
        """Puts the stream of the other name behind that of the name."""
        self._change(name, need_stream(self._book, self[name] + self[other]))

    def make_lean(self, name):
        """Puts the lean form in the place of the stream of the name; returns how many items fewer it has."""
        stream = self[name]
        shorter = lean(self._book, stream)
        self._change(name, shorter)
        return len(stream) - len(shorter)

    def undo(self):
        """Takes the last deed back; returns whether there was one."""
        if len(self._past) == 0:
            return False
        name, stream = self._past.pop()
        self._put(name, stream)
        return True

    def trial(self):
        """An object for one with statement, behind which all is as it was ahead of it."""
        return Trial(self)


def under(manager, deed):
    """What the deed returns, called in a with statement with what the manager gives."""
    with manager as one:
        return deed(one)
