"""Chains: what a text's codes make of an aspect at a place, for all terminals at once."""

from stylefall.books import codes_by_word, is_name_pair, is_number, is_sign, need_stream
from stylefall.errors import BadChain, BadQuestion
from stylefall.seeing import need_terminal, shown_at

MOST_PAIRS = 12


def is_chain(thing):
    """Whether a thing is a chain."""
    if not isinstance(thing, tuple) or len(thing) > MOST_PAIRS:
        return False
    if not all([is_name_pair(pair) for pair in thing]):
        return False
    return len({pair[0] for pair in thing}) == len(thing)


def need_chain(thing):
    """The thing itself, if it is a chain."""
    if not is_chain(thing):
        raise BadChain(thing)
    return thing


def worth_among(chain, kinds):
    """The value of the chain's first pair whose kind is one of these, or None."""
    for kind, value in chain:
        if kind in kinds:
            return value
    return None


def worth(chain, terminal):
    """What the chain is worth on the terminal: a value, or None."""
    need_chain(chain)
    need_terminal(terminal)
    return worth_among(chain, terminal)


def runs_of(chain):
    """The tuple of the chain's runs: each a value and the ascending tuple of its kinds."""
    runs = []
    for kind, value in chain:
        if len(runs) > 0 and runs[-1][0] == value:
            runs[-1][1].append(kind)
        else:
            runs.append((value, [kind]))
    return tuple([(value, tuple(sorted(kinds))) for value, kinds in runs])


def form(chain):
    """The form of the chain."""
    need_chain(chain)
    return runs_of(chain)


def have_one_form(one, other):
    """Whether two chains have the same form."""
    # Equal chains are the most of those that are compared, and the quickest to tell.
    return one == other or runs_of(one) == runs_of(other)


def same(one, other):
    """Whether two chains have the same form, and so the same worth on all terminals."""
    need_chain(one)
    need_chain(other)
    return have_one_form(one, other)


def least_apart(one, other):
    """A terminal of as few kinds as any on which two chains have unlike worths, or None."""
    kinds = sorted({pair[0] for pair in one + other})
    singles = [(kind,) for kind in kinds]
    # No more than two kinds are needed: chains of unlike forms have unlike values of one kind,
    # or unlike values of two kinds in unlike order.
    twos = [(kind, more) for kind in kinds for more in kinds if kind < more]
    for terminal in singles + twos:
        if worth_among(one, terminal) != worth_among(other, terminal):
            return terminal
    return None


def told_apart(one, other):
    """A terminal of as few kinds as any on which two chains have unlike worths, or None."""
    need_chain(one)
    need_chain(other)
    return least_apart(one, other)


def behind(chain, kind, value):
    """The chain of an aspect behind a code of this kind that gives it this value."""
    return ((kind, value),) + tuple([pair for pair in chain if pair[0] != kind])


def no_chains(book):
    """The chains of all aspects ahead of any code, by aspect."""
    return {aspect: () for aspect in book[0]}


def pass_code(chains, code):
    """Changes the chains, a dict by aspect, to those behind the code."""
    _, kind, gives = code
    for aspect, value in gives:
        chains[aspect] = behind(chains[aspect], kind, value)


def chains_behind(book, items):
    """The chains of all aspects behind items of a stream, by aspect."""
    codes = codes_by_word(book)
    chains = no_chains(book)
    for item in items:
        if not is_sign(item):
            pass_code(chains, codes[item])
    return chains


def chain_at(book, stream, place, aspect):
    """The chain of the aspect at the place of the stream."""
    need_stream(book, stream)
    # There is a place ahead of each item, and one behind all of them.
    if not is_number(place, len(stream) + 1):
        raise BadQuestion("the stream has no such place")
    # Only strings are compared: what else is passed may answer "==" in any way.
    if not isinstance(aspect, str) or aspect not in book[0]:
        raise BadQuestion("the book has no such aspect")
    return chains_behind(book, stream[:place])[aspect]


def chains_shown(book, stream):
    """The list, for each sign of the stream, of the tuple of the chains of the aspects that show there."""
    codes = codes_by_word(book)
    chains = no_chains(book)
    rows = []
    for item in stream:
        if is_sign(item):
            rows.append(tuple([chains[aspect] for aspect in shown_at(book, item)]))
        else:
            pass_code(chains, codes[item])
    return rows
