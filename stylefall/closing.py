"""Rows that close another one: behind both, what was plain ahead is plain again on each terminal."""

from stylefall.chains import chains_behind
from stylefall.rows import are_some_words, need_few_codes, need_row
from stylefall.taking import bars, least_row, row_or_bar
from stylefall.wrappers import apart_behind


def closes(book, row, other):
    """Whether the other row closes the row."""
    need_row(book, row)
    need_row(book, other)
    return apart_behind(book, (), row + other) is None


def needs_of_close(book):
    """What has to be settled for each code to be taken, that a row is closed (see stylefall.taking)."""
    needs = {}
    for word, kind, gives in book[2]:
        # What is plain may always be given. Another value has to be undone by a code that stands behind it.
        needs[word] = [((aspect, kind), [] if value == "plain" else None) for aspect, value in gives]
    return needs


def goal_of_close(book, row):
    """The pairs of an aspect and a kind that have to be settled, that the row is closed."""
    chains = chains_behind(book, row)
    return [(aspect, kind) for aspect in book[0] for kind, value in chains[aspect] if value != "plain"]


def close_for(book, row):
    """("row", a row that closes the row, without a word twice), or ("bar", words that bar it)."""
    need_row(book, row)
    return row_or_bar(needs_of_close(book), goal_of_close(book, row))


def is_barred(book, row, thing):
    """Whether a thing is words that bar the row, so that none closes it."""
    need_row(book, row)
    if not are_some_words(book, thing):
        return False
    return bars(needs_of_close(book), goal_of_close(book, row), thing)


def shortest_close(book, row):
    """A row of as small a size as any that closes the row, or None if none does."""
    need_row(book, row)
    need_few_codes(book)
    return least_row(needs_of_close(book), goal_of_close(book, row))
