"""Places: where the lines of a document come out, and which lines begin sections."""

from weft.pieces import sections


def occurrences(program):
    """Return the dict from document lines to the indexes of their program lines."""
    found = {}
    for at, line in enumerate(program):
        found.setdefault(line[1], []).append(at)
    return found


def first_lines(document):
    """Return the list of the lines of code and references directly behind a head."""
    return [head + 1 for _, head, end in sections(document) if end > head + 1]
