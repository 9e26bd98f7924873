"""Tangling: the programs that a document tells."""

from weft.errors import TooLong
from weft.pieces import lines_by_piece, walk

MOST_LINES = 2000


def length(document, root):
    """Return the number of the lines of a program, which can be greater than 2000."""
    return lengths_below(document, root)[root]


def lengths_below(document, root):
    """Return the dict from the pieces that a root needs to the lengths of their programs."""
    pieces = lines_by_piece(document)
    _, ended = walk(document, root)
    lengths = {}
    # A visit ends behind those of all pieces that are needed, so their lengths are there.
    for name in ended:
        lengths[name] = sum([line_length(document[at], lengths) for at in pieces[name]])
    return lengths


def line_length(line, lengths):
    """Return how many program lines a line of code or a reference gives."""
    if line[0] == "use":
        return lengths[line[2]]
    return 1


def tangle(document, root):
    """Return the list of the program lines of a root."""
    lengths = lengths_below(document, root)
    if lengths[root] > MOST_LINES:
        raise TooLong()
    pieces = lines_by_piece(document)
    # Without the references that give nothing, of which a row of pieces could lead
    # to millions, each step below leads to a program line.
    giving = {}
    for name in lengths:
        giving[name] = [at for at in pieces[name] if line_length(document[at], lengths) > 0]
    return put_out(document, giving, root)


def put_out(document, giving, root):
    """Return the program lines of a root; giving has the lines of each piece."""
    program = []
    path = []
    # Each entry is a line that waits, with the length of its path and its indentation.
    waiting = [(0, 0, at) for at in reversed(giving[root])]
    while waiting:
        depth, indentation, at = waiting.pop()
        del path[depth:]
        line = document[at]
        if line[0] == "code":
            program.append((indented(line[1], indentation), at, tuple(path)))
        else:
            path.append(at)
            inner = indentation + line[1]
            waiting.extend([(depth + 1, inner, below) for below in reversed(giving[line[2]])])
    return program


def indented(text, indentation):
    """Return a text behind so many spaces; the empty text stays empty."""
    if text == "":
        return text
    return " " * indentation + text


def indent_of(document, path):
    """Return the sum of the indents of the references of a path."""
    return sum([document[at][1] for at in path])


def texts_of(lines):
    """Return the list of the texts of program lines or of woven lines."""
    return [line[0] for line in lines]
