"""Rows of codes: what they make of the aspects, and which row makes of them what is wished."""

from stylefall.books import are_names, ascend, is_name, need_book, words_of
from stylefall.chains import chains_behind, have_one_form, is_chain
from stylefall.errors import BadQuestion, BadRow, BadWishes, TooMany
from stylefall.taking import bars, least_row, row_or_bar, size_among

MOST_WORDS = 60
MOST_SOUGHT = 10


def is_row(book, thing, most):
    """Whether a thing is a tuple of at most so many words of the book's codes."""
    if not isinstance(thing, tuple) or len(thing) > most:
        return False
    words = words_of(book)
    return all([isinstance(word, str) and word in words for word in thing])


def need_row(book, thing):
    """The thing itself, if it is a row of the book."""
    need_book(book)
    if not is_row(book, thing, MOST_WORDS):
        raise BadRow(thing)
    return thing


def size_of(book, row):
    """The size of the row."""
    return size_among(need_row(book, row))


def front(book, row):
    """The front of the row: the pairs of each aspect and its chain at the row's end."""
    need_row(book, row)
    chains = chains_behind(book, row)
    return tuple([(aspect, chains[aspect]) for aspect in book[0]])


def is_wish(thing, aspects):
    """Whether a thing is a pair of one of these aspects and a chain that is not empty."""
    if not isinstance(thing, tuple) or len(thing) != 2:
        return False
    aspect, chain = thing
    return is_name(aspect) and aspect in aspects and is_chain(chain) and len(chain) > 0


def are_wishes(thing, aspects):
    """Whether a thing is a tuple of wishes for some of these aspects, which ascend."""
    if not isinstance(thing, tuple) or len(thing) > len(aspects):
        return False
    return all([is_wish(part, aspects) for part in thing]) and ascend([wish[0] for wish in thing])


def are_free(thing, aspects, wishes):
    """Whether a thing is a tuple of some of these aspects, which ascend, and for which there is no wish."""
    if not are_names(thing, len(aspects)):
        return False
    wished = [aspect for aspect, _ in wishes]
    return all([aspect in aspects and aspect not in wished for aspect in thing])


def need_wishes(book, thing, free=()):
    """The thing itself, if it is wishes of the book, and the aspects that are left free can be so."""
    aspects = need_book(book)[0]
    if not are_wishes(thing, aspects):
        raise BadWishes(thing)
    if not are_free(free, aspects, thing):
        raise BadQuestion("these aspects can't be left free")
    return thing


def meets(book, wishes, row, free=()):
    """Whether the row meets the wishes, some aspects being left free."""
    need_wishes(book, wishes, free)
    need_row(book, row)
    wished = {aspect: chain for aspect, chain in wishes}
    chains = chains_behind(book, row)
    return all([have_one_form(chains[aspect], wished.get(aspect, ())) for aspect in book[0] if aspect not in free])


def pairs_ahead(aspect, chain, kind, value):
    """The pairs of the aspect and a kind ahead of this kind in the chain, those with the same value aside.

    None if the chain has not this kind with this value.
    """
    ahead = []
    for other, worth in chain:
        if other == kind:
            return ahead if worth == value else None
        if worth != value:
            ahead.append((aspect, other))
    return None


def needs_of_wishes(book, wishes, free):
    """What has to be settled ahead of taking each code, that wishes are met (see stylefall.taking)."""
    wished = {aspect: chain for aspect, chain in wishes}
    needs = {}
    for word, kind, gives in book[2]:
        need = []
        for aspect, value in gives:
            if aspect not in free:
                need.append(((aspect, kind), pairs_ahead(aspect, wished.get(aspect, ()), kind, value)))
        needs[word] = need
    return needs


def goal_of_wishes(wishes):
    """The pairs of an aspect and a kind that have to be settled, that wishes are met."""
    return [(aspect, kind) for aspect, chain in wishes for kind, _ in chain]


def row_for(book, wishes, free=()):
    """("row", a row that meets the wishes, without a word twice), or ("bar", a bar of them)."""
    need_wishes(book, wishes, free)
    return row_or_bar(needs_of_wishes(book, wishes, free), goal_of_wishes(wishes))


def are_some_words(book, thing):
    """Whether a thing is an ascending tuple of unlike words of the book's codes."""
    return is_row(book, thing, len(book[2])) and ascend(thing)


def is_bar(book, wishes, thing, free=()):
    """Whether a thing is a bar of the wishes."""
    need_wishes(book, wishes, free)
    if not are_some_words(book, thing):
        return False
    return bars(needs_of_wishes(book, wishes, free), goal_of_wishes(wishes), thing)


def need_few_codes(book):
    """Raises TooMany of a book of which the shortest row is not sought."""
    if len(book[2]) > MOST_SOUGHT:
        raise TooMany(MOST_SOUGHT)


def shortest_row(book, wishes, free=()):
    """A row of as small a size as any that meets the wishes, or None if none does."""
    need_wishes(book, wishes, free)
    need_few_codes(book)
    return least_row(needs_of_wishes(book, wishes, free), goal_of_wishes(wishes))
