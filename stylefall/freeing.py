"""On which terminals a stream hangs on what was left ahead of it, and which kinds free it of that."""

from stylefall.books import kinds_of, need_stream
from stylefall.chains import chains_shown, worth_among
from stylefall.seeing import need_terminal


def hangs_there(row, terminal):
    """Whether some of the chains that show at a sign leaves its aspect as it was ahead."""
    return any([worth_among(chain, terminal) is None for chain in row])


def hangs(book, stream, terminal):
    """The ascending list of the numbers of the signs at which the stream hangs on the terminal."""
    need_stream(book, stream)
    need_terminal(terminal)
    rows = chains_shown(book, stream)
    return [number for number, row in enumerate(rows) if hangs_there(row, terminal)]


def sets_of(kinds):
    """The ascending tuples of some of the kinds, which ascend, each behind all those that are within it."""
    sets = [()]
    for kind in kinds:
        sets = sets + [some + (kind,) for some in sets]
    return sets


def has_all(kinds, some):
    """Whether all of some kinds are among the kinds."""
    return all([kind in kinds for kind in some])


def freeing(book, stream):
    """The ascending tuple of the least sets of kinds that free the stream."""
    need_stream(book, stream)
    rows = chains_shown(book, stream)
    least = []
    for kinds in sets_of(kinds_of(book)):
        # A terminal that knows more kinds hangs at no more signs. So this one stands for all that know the set,
        # and a set that frees is a least one if none of the least ones ahead is within it.
        if not any([has_all(kinds, some) for some in least]):
            if not any([hangs_there(row, kinds) for row in rows]):
                least.append(kinds)
    return tuple(sorted(least))
