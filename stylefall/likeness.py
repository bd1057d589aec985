"""Whether streams look alike on all terminals behind all that was left, and which of their words are needless."""

from stylefall.books import is_sign, need_stream, signs_of
from stylefall.chains import chains_shown, have_one_form, least_apart, worth_among
from stylefall.errors import BadQuestion


def need_same_signs(book, one, other):
    """Raises BadStream of what is no stream, and BadQuestion of streams with unlike signs."""
    need_stream(book, one)
    need_stream(book, other)
    if signs_of(book, one) != signs_of(book, other):
        raise BadQuestion("the streams have unlike signs")


def look_alike(rows, others):
    """Whether the chains that show at the signs of two streams have the same forms."""
    for row, more in zip(rows, others):
        if not all([have_one_form(one, other) for one, other in zip(row, more)]):
            return False
    return True


def alike(book, one, other):
    """Whether the two streams look alike on each terminal behind each entry."""
    need_same_signs(book, one, other)
    return look_alike(chains_shown(book, one), chains_shown(book, other))


def parting_entry(book, one, other, terminal):
    """An entry behind which an aspect with one chain and one with the other look unlike on a terminal."""
    # Where one chain is worth None there, the value that was left has to be unlike the other's worth.
    if "plain" in (worth_among(one, terminal), worth_among(other, terminal)):
        return {aspect: "other" for aspect in book[0]}
    return {aspect: "plain" for aspect in book[0]}


def parted(book, one, other):
    """A parting of the two streams on a terminal of as few kinds as any, or None if they are alike."""
    need_same_signs(book, one, other)
    rows = chains_shown(book, one)
    others = chains_shown(book, other)
    least = None
    for number, (row, more) in enumerate(zip(rows, others)):
        for first, second in zip(row, more):
            terminal = least_apart(first, second)
            if terminal is not None and (least is None or len(terminal) < len(least[0])):
                least = (terminal, parting_entry(book, first, second, terminal), number)
    return least


def without(stream, number):
    """The stream without the item with this number."""
    return stream[:number] + stream[number + 1:]


def is_needless(book, stream, number, rows):
    """Whether the item is a word without which the chains that show, rows, keep their forms."""
    if is_sign(stream[number]):
        return False
    return look_alike(rows, chains_shown(book, without(stream, number)))


def needless(book, stream):
    """The ascending list of the numbers of the stream's needless items."""
    need_stream(book, stream)
    rows = chains_shown(book, stream)
    return [number for number in range(len(stream)) if is_needless(book, stream, number, rows)]


def lean(book, stream):
    """What is left of the stream if its first needless item is left out, and so on until none is."""
    need_stream(book, stream)
    rows = chains_shown(book, stream)
    number = 0
    while number < len(stream):
        # What was needed ahead of a needless item is so without this item, too: no need to look at it again.
        if is_needless(book, stream, number, rows):
            stream = without(stream, number)
        else:
            number += 1
    return stream
