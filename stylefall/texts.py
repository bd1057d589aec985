"""Written forms of streams and books.

What reads a part of a text goes on as long as some written form does. So the place at which it stops is the one
that is told of a text that is no written form.
"""

from stylefall.books import FIGURES, LETTERS, LONGEST, is_sign, need_book, need_stream
from stylefall.errors import BadText


def stream_text(book, stream):
    """The written form of the stream."""
    need_stream(book, stream)
    return "".join([item if is_sign(item) else f"[{item}]" for item in stream])


def need_text(thing):
    """Raises BadText of what is no string."""
    if not isinstance(thing, str):
        raise BadText(None)


def behind_sign(text, at, sign):
    """The place behind the one sign that has to stand there."""
    if text[at:at + 1] != sign:
        raise BadText(at)
    return at + 1


def behind_name(text, at):
    """The place behind a name that has to stand there."""
    end = at
    while end < len(text) and end - at < LONGEST and text[end] in LETTERS:
        end += 1
    if end == at:
        raise BadText(end)
    return end


def goes_on(sign, many):
    """Whether a word of so many signs can go on with this one."""
    if sign == ";":
        # The first sign is a figure, and one more has to come behind this one.
        return 1 <= many <= LONGEST - 2
    return sign in FIGURES and many < LONGEST


def behind_word(text, at):
    """The place behind a word that has to stand there."""
    end = at
    while end < len(text) and goes_on(text[end], end - at):
        end += 1
    if end == at or text[end - 1] == ";":
        raise BadText(end)
    return end


def read_stream(book, string):
    """The stream of the book with this written form."""
    need_book(book)
    need_text(string)
    items = []
    at = 0
    while at < len(string):
        if is_sign(string[at]):
            items.append(string[at])
            at += 1
        else:
            begin = behind_sign(string, at, "[")
            end = behind_word(string, begin)
            items.append(string[begin:end])
            at = behind_sign(string, end, "]")
    return need_stream(book, tuple(items))


def code_text(code):
    """The line of a code."""
    word, kind, gives = code
    return " ".join([word, kind] + [f"{aspect}={value}" for aspect, value in gives])


def book_text(book):
    """The written form of the book."""
    aspects, shown, codes = need_book(book)
    second = " ".join(shown) if len(shown) > 0 else "-"
    return "\n".join([" ".join(aspects), second] + [code_text(code) for code in codes])


def read_names(text, at):
    """The pair of the names of the line that has to begin there, and the place behind them."""
    end = behind_name(text, at)
    names = [text[at:end]]
    while text[end:end + 1] == " ":
        begin = end + 1
        end = behind_name(text, begin)
        names.append(text[begin:end])
    return tuple(names), end


def read_shown(text, at):
    """The pair of the aspects that show at blanks, and the place behind their line, which has to begin there."""
    if text[at:at + 1] == "-":
        return (), at + 1
    return read_names(text, at)


def read_gift(text, at):
    """The pair of a pair of an aspect and a value that has to stand there, and the place behind it."""
    middle = behind_name(text, at)
    begin = behind_sign(text, middle, "=")
    end = behind_name(text, begin)
    return (text[at:middle], text[begin:end]), end


def read_code(text, at):
    """The pair of the code whose line has to begin there, and the place behind it."""
    behind = behind_word(text, at)
    begin = behind_sign(text, behind, " ")
    end = behind_name(text, begin)
    word, kind = text[at:behind], text[begin:end]
    gift, end = read_gift(text, behind_sign(text, end, " "))
    gives = [gift]
    while text[end:end + 1] == " ":
        gift, end = read_gift(text, end + 1)
        gives.append(gift)
    return (word, kind, tuple(gives)), end


def read_book(string):
    """The book with this written form."""
    need_text(string)
    aspects, end = read_names(string, 0)
    shown, end = read_shown(string, behind_sign(string, end, "\n"))
    codes = []
    while end < len(string):
        code, end = read_code(string, behind_sign(string, end, "\n"))
        codes.append(code)
    return need_book((aspects, shown, tuple(codes)))
