"""Positions: which places of documents, programs and woven texts belong together."""

from weft.tangling import indent_of
from weft.weaving import MARGIN, listed, weave


def from_program(document, program, at, column):
    """Return the position in the document to which a position in a program leads."""
    text, line, path = program[at]
    # An empty program line has no indentation, whatever the references are.
    references = path if text != "" else ()
    for reference in references:
        indent = document[reference][1]
        if column < indent:
            return (reference, column + 1)
        column -= indent
    return (line, column + 1)


def to_program(document, program, line, column):
    """Return the positions in the program to which a position in the document leads."""
    if document[line][0] != "code" or column < 1:
        return []
    found = []
    for at, program_line in enumerate(program):
        if program_line[1] == line:
            found.append((at, column - 1 + indentation_of(document, program_line)))
    return found


def indentation_of(document, program_line):
    """Return how many spaces a program line has before its text."""
    text, _, path = program_line
    return 0 if text == "" else indent_of(document, path)


def to_woven(document, line, column):
    """Return the position in the woven text to which one in the document leads, or None."""
    for at, (text, given_by) in enumerate(weave(document)):
        if given_by == line:
            first, shift = woven_shift(document[line], text)
            if first is None or column < first:
                return None
            return (at, column + shift)
    return None


def from_woven(document, at, column):
    """Return the position in the document to which one in the woven text leads, or None."""
    text, line = weave(document)[at]
    if line is None:
        return None
    first, shift = woven_shift(document[line], text)
    if first is None or column - shift < first:
        return None
    return (line, column - shift)


def woven_shift(line, text):
    """Return the first column of a document's line that leads to its woven text, and how far.

    The column is None for a reference, as all of its columns lead nowhere.
    """
    if line[0] == "prose":
        return (0, 0)
    if line[0] == "code":
        return (1, MARGIN - 1 if text != "" else -1)
    if line[0] == "head":
        return (2, len(text) - len(line[1]) - 2)
    return (None, 0)


def trace(document, program, at, column):
    """Return the text that tells where a position in a program comes from."""
    line, place = from_program(document, program, at, column)
    told = f"line {line + 1}, column {place + 1}"
    path = program[at][2]
    if path == ():
        return told
    references = listed([reference + 1 for reference in path])
    return f"{told}, by way of lines {references}"


def spans(document, program, start, end):
    """Return the list of the spans of the document that a span of a program covers."""
    found = []
    for at in range(start[0], end[0] + 1):
        text, line, _ = program[at]
        indentation = indentation_of(document, program[at])
        first = start[1] if at == start[0] else 0
        last = end[1] if at == end[0] else len(text)
        first = max(first, indentation)
        if first < last:
            found.append((line, first - indentation + 1, last - indentation + 1))
    return found
