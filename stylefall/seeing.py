"""What is seen of a stream on a terminal behind an entry."""

from stylefall.books import are_names, codes_by_word, is_letter, is_name, is_sign, need_book, need_stream
from stylefall.errors import BadEntry, BadTerminal

MOST_KNOWN = 12


def is_terminal(thing):
    """Whether a thing is a terminal."""
    return are_names(thing, MOST_KNOWN)


def need_terminal(thing):
    """The thing itself, if it is a terminal."""
    if not is_terminal(thing):
        raise BadTerminal(thing)
    return thing


def is_entry(thing, aspects):
    """Whether a thing is a dict from all these aspects, and nothing else, to values."""
    if not isinstance(thing, dict) or len(thing) != len(aspects):
        return False
    for key, value in thing.items():
        # Only strings are compared: another key may answer "==" in any way.
        if not isinstance(key, str) or key not in aspects or not is_name(value):
            return False
    return True


def need_entry(book, thing):
    """The thing itself, if it is an entry of the book."""
    aspects = need_book(book)[0]
    if not is_entry(thing, aspects):
        raise BadEntry(thing)
    return thing


def shown_at(book, sign):
    """The tuple of the aspects that show at a sign."""
    aspects, shown, _ = book
    if is_letter(sign):
        return aspects
    if sign == " ":
        return shown
    return ()


def seen(book, stream, terminal, entry):
    """The tuple of the pairs of each sign and its look, on the terminal behind the entry."""
    need_stream(book, stream)
    need_terminal(terminal)
    need_entry(book, entry)
    codes = codes_by_word(book)
    values = {aspect: entry[aspect] for aspect in book[0]}
    pairs = []
    for item in stream:
        if is_sign(item):
            look = tuple([values[aspect] for aspect in shown_at(book, item)])
            pairs.append((item, look))
        else:
            _, kind, gives = codes[item]
            if kind in terminal:
                for aspect, value in gives:
                    values[aspect] = value
    return tuple(pairs)
