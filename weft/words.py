"""Words: where those of the code stand, and other names for them."""

from weft.errors import Taken, Unfit
from weft.lines import is_code
from weft.pieces import sections
from weft.weaving import add_section

WORD_SIGNS = "abcdefghijklmnopqrstuvwxyzABCDEFGHIJKLMNOPQRSTUVWXYZ0123456789_"


def is_word(text):
    """Tell whether a text is a word."""
    return text != "" and all([sign in WORD_SIGNS for sign in text])


def words_of(text):
    """Return the list of (column, word) of the words of a text."""
    found = []
    start = 0
    # The sign behind the text ends a word at its end.
    for at, sign in enumerate(text + " "):
        if sign not in WORD_SIGNS:
            if start < at:
                found.append((start, text[start:at]))
            start = at + 1
    return found


def find_word(document, word):
    """Return the list of the positions of a word in the code."""
    found = []
    for at, line in enumerate(document):
        if line[0] == "code":
            # The bar stands before the text.
            found.extend([(at, column + 1) for column, own in words_of(line[1]) if own == word])
    return found


def word_index(document):
    """Return the list of (word, numbers of its sections) of all words of the code."""
    numbers = {}
    for number, (_, head, end) in enumerate(sections(document), start=1):
        for line in document[head + 1:end]:
            if line[0] == "code":
                for _, word in words_of(line[1]):
                    add_section(numbers, word, number)
    return [(word, numbers[word]) for word in sorted(numbers)]


def rename_word(document, old, new):
    """Return the document with a new word in the place of an old one in the code."""
    if new != old and find_word(document, new) != []:
        raise Taken(new)
    found = []
    for at, line in enumerate(document):
        if line[0] == "code":
            text = with_new_word(line[1], old, new)
            if not is_code(text):
                raise Unfit(at, "reference")
            found.append(("code", text))
        else:
            found.append(line)
    return tuple(found)


def with_new_word(text, old, new):
    """Return a text with a new word in the place of each word that is the old one."""
    parts = []
    end = 0
    for column, word in words_of(text):
        if word == old:
            parts.append(text[end:column] + new)
            end = column + len(old)
    return "".join(parts) + text[end:]
