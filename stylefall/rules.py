"""Rules: what an aspect is to be worth on each of many terminals, and whether one chain can do it."""

from stylefall.books import ascend, is_name
from stylefall.chains import need_chain, worth_among
from stylefall.errors import BadRule
from stylefall.seeing import is_terminal

MOST_WANTS = 64
MOST_KINDS_OF_RULE = 12


def is_want_pair(thing):
    """Whether a thing is a pair of a terminal and what is wanted there."""
    if not isinstance(thing, tuple) or len(thing) != 2:
        return False
    terminal, want = thing
    return is_terminal(terminal) and (want is None or is_name(want))


def kinds_known(terminals):
    """The ascending list of the kinds that some of the terminals know."""
    return sorted({kind for terminal in terminals for kind in terminal})


def terminals_of(pairs):
    """The tuple of the terminals of pairs of a terminal and what is wanted there."""
    return tuple([terminal for terminal, _ in pairs])


def need_rule(thing):
    """The thing itself, if it is a rule."""
    if not isinstance(thing, tuple) or len(thing) > MOST_WANTS:
        raise BadRule(None)
    terminals = []
    for number, pair in enumerate(thing):
        if not is_want_pair(pair):
            raise BadRule(number)
        terminals.append(pair[0])
        if not ascend(terminals) or len(kinds_known(terminals)) > MOST_KINDS_OF_RULE:
            raise BadRule(number)
    return thing


def follows(chain, rule):
    """Whether the chain is worth on each terminal of the rule what is wanted there."""
    need_chain(chain)
    need_rule(rule)
    return all([worth_among(chain, terminal) == want for terminal, want in rule])


def next_of_chain(pairs):
    """A kind with the one value that all terminals of the pairs that know it want, or None if there is none."""
    for kind in kinds_known(terminals_of(pairs)):
        wants = [want for terminal, want in pairs if kind in terminal]
        if wants[0] is not None and all([want == wants[0] for want in wants]):
            return (kind, wants[0])
    return None


def are_stuck(pairs):
    """Whether the pairs want something, and no kind can be taken for them."""
    return any([want is not None for _, want in pairs]) and next_of_chain(pairs) is None


def follow(rule):
    """("chain", a chain that follows the rule), or ("stuck", a stuck tuple of its terminals)."""
    left = need_rule(rule)
    chain = ()
    pair = next_of_chain(left)
    while pair is not None:
        chain = chain + (pair,)
        left = tuple([item for item in left if pair[0] not in item[0]])
        pair = next_of_chain(left)
    if are_stuck(left):
        return ("stuck", terminals_of(left))
    return ("chain", chain)


def are_terminals_of(rule, thing):
    """Whether a thing is a tuple of terminals of the rule, ascending and unlike."""
    if not isinstance(thing, tuple):
        return False
    terminals = terminals_of(rule)
    return all([is_terminal(part) and part in terminals for part in thing]) and ascend(thing)


def is_stuck(rule, thing):
    """Whether a thing is a stuck tuple of the rule's terminals."""
    need_rule(rule)
    if not are_terminals_of(rule, thing):
        return False
    return are_stuck([pair for pair in rule if pair[0] in thing])
