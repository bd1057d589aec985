"""Wrappers: rows of codes around parts of a text, and whether they can be nested in any way."""

from stylefall.books import is_letter, is_number, kinds_of, need_book
from stylefall.chains import chains_behind, chains_shown, least_apart
from stylefall.errors import BadQuestion, BadTree, BadWrappers
from stylefall.likeness import look_alike
from stylefall.rows import is_row

MOST_WRAPPERS = 6
MOST_IN_ROW = 12
MOST_TREES = 6
MOST_IN_TREE = 30


def is_wrapper(book, thing):
    """Whether a thing is a wrapper of the book."""
    if not isinstance(thing, tuple) or len(thing) != 2:
        return False
    return is_row(book, thing[0], MOST_IN_ROW) and is_row(book, thing[1], MOST_IN_ROW)


def need_wrappers(book, thing):
    """The thing itself, if it is wrappers of the book."""
    need_book(book)
    if not isinstance(thing, tuple) or not 1 <= len(thing) <= MOST_WRAPPERS:
        raise BadWrappers(thing)
    if not all([is_wrapper(book, part) for part in thing]):
        raise BadWrappers(thing)
    return thing


def is_letter_or_blank(thing):
    """Whether a thing is a letter or a blank."""
    return isinstance(thing, str) and (is_letter(thing) or thing == " ")


def is_inner(thing, many, around):
    """Whether a thing is a pair, the first one of which is the number of one of so many, and none of those around."""
    if not isinstance(thing, tuple) or len(thing) != 2:
        return False
    return is_number(thing[0], many) and thing[0] not in around


def items_left(thing, many, around, most):
    """How many fewer items than most a tree of so many wrappers has, within those with the numbers around.

    None of what is no such tree, or has more items.
    """
    if not isinstance(thing, tuple) or len(thing) > most or len(around) >= MOST_TREES:
        return None
    most = most - len(thing)
    for item in thing:
        if is_inner(item, many, around):
            most = items_left(item[1], many, around + (item[0],), most)
            if most is None:
                return None
        elif not is_letter_or_blank(item):
            return None
    return most


def need_tree(book, wrappers, thing):
    """The thing itself, if it is a tree of the wrappers."""
    need_wrappers(book, wrappers)
    if items_left(thing, len(wrappers), (), MOST_IN_TREE) is None:
        raise BadTree(thing)
    return thing


def draw(wrappers, tree, around, again):
    """The list of the items that are drawn of a tree behind the words around, those of the opening rows there."""
    items = []
    for item in tree:
        if isinstance(item, tuple):
            opening, closing = wrappers[item[0]]
            items.extend(opening)
            items.extend(draw(wrappers, item[1], around + opening, again))
            items.extend(closing)
            if again:
                items.extend(around)
        else:
            items.append(item)
    return items


def drawn(book, wrappers, tree):
    """The tuple of the tree's items with the words of the wrappers around them."""
    need_tree(book, wrappers, tree)
    return tuple(draw(wrappers, tree, (), False))


def drawn_again(book, wrappers, tree):
    """What is drawn of the tree if, behind each closing row, the opening rows around it come once more."""
    need_tree(book, wrappers, tree)
    return tuple(draw(wrappers, tree, (), True))


def meant(book, wrappers, tree, around):
    """The list, for each sign of the tree, of the chains that show there behind the opening words around it alone."""
    rows = []
    for item in tree:
        if isinstance(item, tuple):
            rows.extend(meant(book, wrappers, item[1], around + wrappers[item[0]][0]))
        else:
            rows.extend(chains_shown(book, around + (item,)))
    return rows


def with_plain(chain, kinds):
    """The chain, which has some of these kinds, and behind it "plain" for all others.

    It is worth, on each terminal that knows one of the kinds, what the chain makes of "plain".
    """
    known = [kind for kind, _ in chain]
    return chain + tuple([(kind, "plain") for kind in kinds if kind not in known])


def all_with_plain(rows, kinds):
    """The rows of chains with "plain" behind each chain."""
    return [[with_plain(chain, kinds) for chain in row] for row in rows]


def is_right(book, wrappers, tree, again=False):
    """Whether the tree is right when it is drawn, or, with again, drawn again."""
    need_tree(book, wrappers, tree)
    kinds = kinds_of(book)
    rows = chains_shown(book, draw(wrappers, tree, (), again))
    return look_alike(all_with_plain(rows, kinds), all_with_plain(meant(book, wrappers, tree, ()), kinds))


def apart_behind(book, ahead, behind):
    """A terminal of one kind or two on which, behind plain, the words ahead leave not what they do with those behind.

    None if there is no such terminal.
    """
    kinds = kinds_of(book)
    chains = chains_behind(book, ahead)
    others = chains_behind(book, ahead + behind)
    for aspect in book[0]:
        terminal = least_apart(with_plain(chains[aspect], kinds), with_plain(others[aspect], kinds))
        if terminal is not None:
            return terminal
    return None


def apart_under(book, wrappers, number, under):
    """A terminal on which a wrapper does not restore under another one, or under nothing; None if it restores."""
    ahead = () if under is None else wrappers[under][0]
    opening, closing = wrappers[number]
    return apart_behind(book, ahead, opening + closing)


def restores(book, wrappers, number, under=None):
    """Whether the wrapper with this number restores under that with the number under, or under nothing."""
    need_wrappers(book, wrappers)
    if not is_number(number, len(wrappers)):
        raise BadQuestion("there is no wrapper with this number")
    if under is not None and not is_number(under, len(wrappers)):
        raise BadQuestion("there is no wrapper with this number to be under")
    return apart_under(book, wrappers, number, under) is None


def unnested(book, wrappers):
    """(w, x, terminal), x not restoring under w, or under nothing with None, on the terminal; None if all restore."""
    need_wrappers(book, wrappers)
    for under in [None] + list(range(len(wrappers))):
        for number in range(len(wrappers)):
            if number != under:
                terminal = apart_under(book, wrappers, number, under)
                if terminal is not None:
                    return (under, number, terminal)
    return None


def nested(book, wrappers):
    """Whether all trees of the wrappers are right when they are drawn."""
    return unnested(book, wrappers) is None
