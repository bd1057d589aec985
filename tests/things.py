"""What several tests share: books, things of all kinds, what a call raises, what is seen by the document's words."""

import itertools
import re
import unittest


class Awkward:
    """Refuses all that can be asked of it, so that only its kind can be looked at."""

    def refuse(self, *told):
        raise RuntimeError("an awkward object was asked for more than its kind")

    __eq__ = __ne__ = __lt__ = __le__ = __gt__ = __ge__ = refuse
    __hash__ = __bool__ = __len__ = __iter__ = __contains__ = __getitem__ = refuse
    __repr__ = __str__ = __add__ = __radd__ = refuse


class Agreeable:
    """Says that it equals whatever it is compared with."""

    def __init__(self, likeness="a"):
        self.likeness = likeness

    def __eq__(self, other):
        return True

    def __hash__(self):
        return hash(self.likeness)


def deep_in(outer, thing, times):
    """A thing in an outer kind of row, this in another one, and so on."""
    for _ in range(times):
        thing = outer((thing,))
    return thing


def odd_things():
    """Things of all kinds that are no floats."""
    return [
        None, True, False, 0, 1, -1, 3, 16, 10 ** 5000, -(10 ** 5000), 3j, Ellipsis, NotImplemented,
        "", "a", "ab", "z", "A", "1", "0;1", ";", ";1", "1;", " ", "  ", "\n", "\t", "a b", "a1", "-",
        "abcdefgh", "abcdefghi", "12345678", "123456789", "a" * 100000, "1" * 100000,
        "\u00e9", "\u0663", "\u00b2", "\uff11", "\ud800", "\x00", "a\n", "1\n", "aspects", "shown", "codes",
        b"", b"a", b"1", bytearray(b"a"), range(3), object(), object, len, iter(()), lambda: None,
        Awkward(), Agreeable(), Agreeable("1"),
        [], ["a"], ["a", "b"], [["a"]], (), ("a",), ("a", "b"), ("b", "a"), ("a", "a"), (("a", "b"),),
        ("a", 1), ("a", None), (None,), (None, None), (1, 2, 3), ("a", "b", "c"), ("a", ["b"]),
        {}, {"a": "b"}, {1: "b"}, {None: None}, {("a",): "b"}, set(), {"a"}, frozenset({"a"}),
        deep_in(tuple, "a", 50000), deep_in(tuple, (), 3), deep_in(list, "a", 50000), (Awkward(),),
        (Agreeable(),), (Agreeable(), Agreeable()), ("a",) * 100000,
    ]


def told_book():
    """The example of the document."""
    return (
        ("ink", "weight"),
        (),
        (
            ("1", "basic", (("weight", "bold"),)),
            ("33", "basic", (("ink", "yellow"),)),
            ("38;5;208", "many", (("ink", "orange"),)),
            ("39", "basic", (("ink", "plain"),)),
            ("0", "basic", (("ink", "plain"), ("weight", "plain"))),
        ),
    )


def full_book():
    """As many aspects, codes and kinds as a book may have."""
    aspects = ("a", "b", "c", "d", "e", "ffffffff")
    kinds = ("k", "l", "m", "n", "o", "pppppppp")
    codes = tuple((str(n), kinds[n % 6], ((aspects[n % 6], "v"),)) for n in range(15))
    return (aspects, ("a", "c", "ffffffff"), codes + (("0;1;2;;3", "k", tuple((a, "plain") for a in aspects)),))


def raised_by(deed, *told):
    """The error that a call raises, or None."""
    try:
        deed(*told)
    except Exception as error:
        return error
    return None


class Given(unittest.TestCase):
    def check_raised(self, error, deed, *told):
        """The error that a call raises, which has to be just of this class."""
        raised = raised_by(deed, *told)
        self.assertIs(raised.__class__, error)
        return raised

    def check_refused(self, error, deed, *told):
        """The error has the very thing that was passed last, the whole of it."""
        self.assertIs(self.check_raised(error, deed, *told).given, told[-1])


def is_name(thing):
    return isinstance(thing, str) and re.fullmatch("[a-z]{1,8}", thing) is not None


def some_of(things):
    """All tuples of some of the things, in their order, those of fewer first."""
    return [some for many in range(len(things) + 1) for some in itertools.combinations(things, many)]


def worth_of(chain, terminal):
    """The worth of a chain on a terminal, or None."""
    return next((value for kind, value in chain if kind in terminal), None)


def all_chains(kinds, values):
    """All chains of some of the kinds, each with one of the values."""
    for some in some_of(kinds):
        for order in itertools.permutations(some):
            for given in itertools.product(values, repeat=len(order)):
                yield tuple(zip(order, given))


def is_chain(thing):
    """Whether a thing is a chain."""
    if not isinstance(thing, tuple) or len(thing) > 12:
        return False
    for pair in thing:
        if not isinstance(pair, tuple) or len(pair) != 2 or not is_name(pair[0]) or not is_name(pair[1]):
            return False
    return len(dict(thing)) == len(thing)


def form_of(chain):
    """The form of a chain."""
    runs = itertools.groupby(chain, key=lambda pair: pair[1])
    return tuple((value, tuple(sorted(kind for kind, _ in pairs))) for value, pairs in runs)


def chain_of(book, stream, place, aspect):
    """The chain, each kind's last code being sought backwards from the place."""
    table = {word: (kind, dict(gives)) for word, kind, gives in book[2]}
    chain = {}
    for item in stream[:place][::-1]:
        kind, gives = table.get(item, (None, {}))
        if aspect in gives:
            chain.setdefault(kind, gives[aspect])
    return tuple(chain.items())


def words(text):
    """A stream out of a short text: figures are words, "n" a line end."""
    return tuple({"n": "\n"}.get(sign, sign) for sign in text)


def kinds(book):
    return tuple(sorted({kind for _, kind, _ in book[2]}))


def look_of(book, stream, place, terminal, entry):
    """The look at a place, each aspect being sought backwards from there."""
    aspects, shown, codes = book
    shows = {" ": shown, "\n": ()}.get(stream[place], aspects)
    table = {word: (kind, dict(gives)) for word, kind, gives in codes}
    ahead = [table[item] for item in stream[:place] if item in table]
    look = []
    for aspect in shows:
        values = [gives[aspect] for kind, gives in ahead if kind in terminal and aspect in gives]
        look.append((values or [entry[aspect]])[-1])
    return tuple(look)


def sight(book, stream, terminal, entry):
    """What is seen, by the words of the document."""
    words = [code[0] for code in book[2]]
    places = [place for place, item in enumerate(stream) if item not in words]
    return tuple((stream[place], look_of(book, stream, place, terminal, entry)) for place in places)


def bad_books():
    """Some things that are no books."""
    return [None, True, 0, "", (), [], list(told_book()), told_book()[:2], ((), (), ()), (("a",), ("b",), ()),
            (("a",), (), (("1", "k", (("b", "x"),)),)), Awkward(), Agreeable(), deep_in(tuple, "a", 50000)]


def many_codes(book, many):
    """The book with more codes, so many in all, of the last kind and for the last aspect."""
    kind, aspect = kinds(book)[-1], book[0][-1]
    more = tuple((f"9;{at}", kind, ((aspect, "more"),)) for at in range(many - len(book[2])))
    return book[:2] + (book[2] + more,)


def all_rows(book):
    """All rows of unlike words of a book."""
    words = [code[0] for code in book[2]]
    return [row for many in range(len(words) + 1) for row in itertools.permutations(words, many)]


def plain(book):
    """The entry in which each aspect is plain."""
    return {aspect: "plain" for aspect in book[0]}


def random_book(chance, aspects="abc", codes=5, kinds="klm", values="xy"):
    """A book with at most so many of each."""
    aspects = tuple(aspects[:chance.randint(1, len(aspects))])
    shown = tuple(sorted(chance.sample(aspects, chance.randint(0, len(aspects)))))
    rows = []
    for number in range(chance.randint(0, codes)):
        given = sorted(chance.sample(aspects, chance.randint(1, len(aspects))))
        rows.append((str(number), chance.choice(kinds), tuple((aspect, chance.choice(values)) for aspect in given)))
    return (aspects, shown, tuple(rows))


def random_stream(chance, book, most):
    """A stream of the book with at most so many items, about as many words as signs."""
    words = [code[0] for code in book[2]]
    return tuple(chance.choice(words if words and chance.random() < 0.6 else "ab \n")
                 for _ in range(chance.randint(0, most)))
