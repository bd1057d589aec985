"""Rows that are found from their ends: the last code is taken first, then the one ahead of it, and so on.

What is sought is told by needs and a goal. A pair of an aspect and a kind is settled by codes that are taken
if one of them, of this kind, gives this aspect: no code ahead matters for it then. The needs have, by word,
for each such pair of the code that matters at all, the pair and the list of the pairs that have to be settled
for the code to be taken, or None if it has to be settled itself. The goal is the list of the pairs that have to
be settled at last.
"""


def size_among(words):
    """The size of a row of these words: all their signs, and two more for each."""
    return sum([len(word) + 2 for word in words])


def settle(settled, needs, word):
    """Adds what a code settles to a dict of the pairs that are settled."""
    for pair, _ in needs[word]:
        settled[pair] = True


def settled_by(needs, words):
    """The dict of the pairs that are settled by the codes with these words."""
    settled = {}
    for word in words:
        settle(settled, needs, word)
    return settled


def are_settled(settled, pairs):
    """Whether all these pairs are settled."""
    return all([pair in settled for pair in pairs])


def can_take(need, settled):
    """Whether a code with these needs can be taken when these pairs are settled."""
    for pair, ahead in need:
        if pair not in settled and (ahead is None or not are_settled(settled, ahead)):
            return False
    return True


def take_all(needs):
    """The list of all words that can be taken, each in its turn."""
    words = []
    settled = {}
    found = True
    while found:
        found = False
        for word in needs:
            if word not in words and can_take(needs[word], settled):
                words.append(word)
                settle(settled, needs, word)
                found = True
    return words


def reach(needs, goal, words):
    """Whether words can be taken in this order, and settle the goal."""
    settled = {}
    for word in words:
        if not can_take(needs[word], settled):
            return False
        settle(settled, needs, word)
    return are_settled(settled, goal)


def without_idle(needs, goal, words):
    """What is left of words that reach the goal if those without which the others reach it are left out."""
    kept = words
    # The last ones go first: what they alone have need of can go then, too.
    for word in words[::-1]:
        fewer = [other for other in kept if other != word]
        if reach(needs, goal, fewer):
            kept = fewer
    return kept


def row_or_bar(needs, goal):
    """("row", a row that reaches the goal, without a word twice), or ("bar", the words that bar all rows)."""
    words = take_all(needs)
    if not are_settled(settled_by(needs, words), goal):
        return ("bar", tuple(sorted(words)))
    return ("row", tuple(without_idle(needs, goal, words)[::-1]))


def bars(needs, goal, words):
    """Whether these words do not settle the goal, and no other one can be taken behind them."""
    settled = settled_by(needs, words)
    if are_settled(settled, goal):
        return False
    return not any([can_take(needs[word], settled) for word in needs if word not in words])


def least_row(needs, goal):
    """A row of as small a size as any that reaches the goal, or None."""
    least = None
    # What can be taken next hangs on which words are taken, not on their order. So one row is kept for each
    # choice of words, a bit for each; those with one word more have a greater number and come later.
    rows = {0: ()}
    for choice in range(1 << len(needs)):
        if choice in rows:
            row = rows[choice]
            settled = settled_by(needs, row)
            if are_settled(settled, goal) and (least is None or size_among(row) < size_among(least)):
                least = row
            for at, word in enumerate(needs):
                if word not in row and can_take(needs[word], settled):
                    rows[choice | 1 << at] = (word,) + row
    return least
