"""Books and the streams of a book."""

from stylefall.errors import BadBook, BadQuestion, BadStream

LETTERS = "abcdefghijklmnopqrstuvwxyz"
FIGURES = "0123456789"
LONGEST = 8
MOST_ASPECTS = 6
MOST_CODES = 16
MOST_KINDS = 6
MOST_ITEMS = 200


def is_short(thing):
    """Whether a thing is a string of as many signs as names and words have."""
    return isinstance(thing, str) and 1 <= len(thing) <= LONGEST


def is_name(thing):
    """Whether a thing is an aspect, a value or a kind: the three have one form."""
    return is_short(thing) and all([sign in LETTERS for sign in thing])


def is_number(thing, many):
    """Whether a thing is the number of one of so many, counted from 0."""
    return isinstance(thing, int) and not isinstance(thing, bool) and 0 <= thing < many


def is_word(thing):
    """Whether a thing has the form of a word."""
    if not is_short(thing) or thing[0] == ";" or thing[-1] == ";":
        return False
    return all([sign in FIGURES or sign == ";" for sign in thing])


def ascend(names):
    """Whether names that stand in a list or tuple are ascending and unlike."""
    return all([names[at - 1] < names[at] for at in range(1, len(names))])


def are_names(thing, most):
    """Whether a thing is a tuple of at most so many names, ascending and unlike."""
    if not isinstance(thing, tuple) or len(thing) > most:
        return False
    return all([is_name(part) for part in thing]) and ascend(thing)


def is_name_pair(thing):
    """Whether a thing is a pair of an aspect and a value, or of a kind and a value: the two have one form."""
    return isinstance(thing, tuple) and len(thing) == 2 and is_name(thing[0]) and is_name(thing[1])


def are_gifts(thing):
    """Whether a thing has the form of what a code gives."""
    if not isinstance(thing, tuple) or len(thing) == 0:
        return False
    return all([is_name_pair(pair) for pair in thing]) and ascend([pair[0] for pair in thing])


def is_code(thing, aspects):
    """Whether a thing is a code that gives some of these aspects and no others."""
    if not isinstance(thing, tuple) or len(thing) != 3:
        return False
    word, kind, gives = thing
    if not is_word(word) or not is_name(kind) or not are_gifts(gives):
        return False
    return all([pair[0] in aspects for pair in gives])


def need_codes(aspects, codes):
    """Raises BadBook with the number of the first thing that is no code or can't stand there."""
    words = []
    kinds = []
    for number, code in enumerate(codes):
        if not is_code(code, aspects) or code[0] in words:
            raise BadBook(number)
        words.append(code[0])
        if code[1] not in kinds:
            kinds.append(code[1])
        if len(kinds) > MOST_KINDS:
            raise BadBook(number)


def need_book(thing):
    """The thing itself, if it is a book."""
    if not isinstance(thing, tuple) or len(thing) != 3:
        raise BadBook(None)
    aspects, shown, codes = thing
    if not are_names(aspects, MOST_ASPECTS) or len(aspects) == 0:
        raise BadBook("aspects")
    if not are_names(shown, MOST_ASPECTS) or not all([name in aspects for name in shown]):
        raise BadBook("shown")
    if not isinstance(codes, tuple) or len(codes) > MOST_CODES:
        raise BadBook("codes")
    need_codes(aspects, codes)
    return thing


def kinds_of(book):
    """The ascending tuple of the kinds of the book's codes."""
    codes = need_book(book)[2]
    return tuple(sorted({code[1] for code in codes}))


def words_of(book):
    """The list of the words of the book's codes."""
    return [code[0] for code in book[2]]


def codes_by_word(book):
    """The codes of a book by their words."""
    return {code[0]: code for code in book[2]}


def code_of(book, word):
    """The code of the book that has this word."""
    codes = need_book(book)[2]
    # Only strings are compared: what else is passed may answer "==" in any way.
    if isinstance(word, str):
        for code in codes:
            if code[0] == word:
                return code
    raise BadQuestion("the book has no code with this word")


def is_letter(item):
    """Whether a string is a letter."""
    return len(item) == 1 and item in LETTERS


def is_sign(item):
    """Whether a string is a letter, a blank or a line end."""
    return is_letter(item) or item == " " or item == "\n"


def need_stream(book, thing):
    """The thing itself, if it is a stream of the book."""
    need_book(book)
    if not isinstance(thing, tuple) or len(thing) > MOST_ITEMS:
        raise BadStream(None)
    words = words_of(book)
    for number, item in enumerate(thing):
        if not isinstance(item, str) or not (is_sign(item) or item in words):
            raise BadStream(number)
    return thing


def signs_of(book, stream):
    """The tuple of the stream's signs: all its items that are no words."""
    need_stream(book, stream)
    return tuple([item for item in stream if is_sign(item)])
