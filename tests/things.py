"""What several tests share: books, things of all kinds, and a sight of what a call raises."""


class Awkward:
    """Refuses all that can be asked of it, so that only its kind can be looked at."""

    def refuse(self, *told):
        raise RuntimeError("an awkward object was asked for more than its kind")

    __eq__ = __ne__ = __lt__ = __le__ = __gt__ = __ge__ = refuse
    __hash__ = __bool__ = __len__ = __iter__ = __contains__ = __getitem__ = refuse
    __repr__ = __str__ = __add__ = __radd__ = refuse


class Agreeable:
    """Says that it equals whatever it is compared with."""

    def __init__(self, likeness="a"):
        self.likeness = likeness

    def __eq__(self, other):
        return True

    def __hash__(self):
        return hash(self.likeness)


def deep_in(outer, thing, times):
    """A thing in an outer kind of row, this in another one, and so on."""
    for _ in range(times):
        thing = outer((thing,))
    return thing


def odd_things():
    """Things of all kinds that are no floats."""
    return [
        None, True, False, 0, 1, -1, 3, 16, 10 ** 5000, -(10 ** 5000), 3j, Ellipsis, NotImplemented,
        "", "a", "ab", "z", "A", "1", "0;1", ";", ";1", "1;", " ", "  ", "\n", "\t", "a b", "a1", "-",
        "abcdefgh", "abcdefghi", "12345678", "123456789", "a" * 100000, "1" * 100000,
        "\u00e9", "\u0663", "\u00b2", "\uff11", "\ud800", "\x00", "a\n", "1\n", "aspects", "shown", "codes",
        b"", b"a", b"1", bytearray(b"a"), range(3), object(), object, len, iter(()), lambda: None,
        Awkward(), Agreeable(), Agreeable("1"),
        [], ["a"], ["a", "b"], [["a"]], (), ("a",), ("a", "b"), ("b", "a"), ("a", "a"), (("a", "b"),),
        ("a", 1), ("a", None), (None,), (None, None), (1, 2, 3), ("a", "b", "c"), ("a", ["b"]),
        {}, {"a": "b"}, {1: "b"}, {None: None}, {("a",): "b"}, set(), {"a"}, frozenset({"a"}),
        deep_in(tuple, "a", 50000), deep_in(tuple, (), 3), deep_in(list, "a", 50000), (Awkward(),),
        (Agreeable(),), (Agreeable(), Agreeable()), ("a",) * 100000,
    ]


def told_book():
    """The example of the document."""
    return (
        ("ink", "weight"),
        (),
        (
            ("1", "basic", (("weight", "bold"),)),
            ("33", "basic", (("ink", "yellow"),)),
            ("38;5;208", "many", (("ink", "orange"),)),
            ("39", "basic", (("ink", "plain"),)),
            ("0", "basic", (("ink", "plain"), ("weight", "plain"))),
        ),
    )


def full_book():
    """As many aspects, codes and kinds as a book may have."""
    aspects = ("a", "b", "c", "d", "e", "ffffffff")
    kinds = ("k", "l", "m", "n", "o", "pppppppp")
    codes = tuple((str(n), kinds[n % 6], ((aspects[n % 6], "v"),)) for n in range(15))
    return (aspects, ("a", "c", "ffffffff"), codes + (("0;1;2;;3", "k", tuple((a, "plain") for a in aspects)),))


def raised_by(deed, *told):
    """The error that a call raises, or None."""
    try:
        deed(*told)
    except Exception as error:
        return error
    return None
