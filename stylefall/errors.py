"""The errors of the package.

Their texts are fixed: what was passed may be anything, also what can't be shown as a text.
"""


class StyleError(ValueError):
    """An argument is refused."""


class BadBook(StyleError):
    """What is no book; place tells where."""

    def __init__(self, place):
        super().__init__("this is no book")
        self.place = place


class BadStream(StyleError):
    """What is no stream of the book; place tells where."""

    def __init__(self, place):
        super().__init__("this is no stream of the book")
        self.place = place


class BadRule(StyleError):
    """What is no rule; place tells where."""

    def __init__(self, place):
        super().__init__("this is no rule")
        self.place = place


class BadText(StyleError):
    """What is no written form; place tells where."""

    def __init__(self, place):
        super().__init__("this is no written form")
        self.place = place


class BadTerminal(StyleError):
    """What is no terminal."""

    def __init__(self, given):
        super().__init__("this is no terminal")
        self.given = given


class BadEntry(StyleError):
    """What is no entry of the book."""

    def __init__(self, given):
        super().__init__("this is no entry of the book")
        self.given = given


class BadChain(StyleError):
    """What is no chain."""

    def __init__(self, given):
        super().__init__("this is no chain")
        self.given = given


class BadRow(StyleError):
    """What is no row of the book."""

    def __init__(self, given):
        super().__init__("this is no row of the book")
        self.given = given


class BadWishes(StyleError):
    """What are no wishes of the book."""

    def __init__(self, given):
        super().__init__("these are no wishes of the book")
        self.given = given


class BadWrappers(StyleError):
    """What are no wrappers of the book."""

    def __init__(self, given):
        super().__init__("these are no wrappers of the book")
        self.given = given


class BadTree(StyleError):
    """What is no tree of the wrappers."""

    def __init__(self, given):
        super().__init__("this is no tree of the wrappers")
        self.given = given


class TooMany(StyleError):
    """A book with more codes than most, of which the shortest row is not sought."""

    def __init__(self, most):
        super().__init__("the book has too many codes for this")
        self.most = most


class BadQuestion(StyleError):
    """A question that can't be asked; it is made with a text that tells why."""


class Parts(RuntimeError):
    """Two streams that are not alike: on the terminal behind the entry this sign differs."""

    def __init__(self, terminal, entry, number):
        super().__init__("the streams are not alike")
        self.terminal = terminal
        self.entry = entry
        self.number = number


class Missing(KeyError):
    """A name under which no stream is kept."""

    def __init__(self, name):
        super().__init__("no stream has this name")
        self.name = name
