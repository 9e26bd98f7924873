"""Folded views: programs in which some references are not followed."""

from weft.mapping import fates_of_lines
from weft.tangling import tangle


def fold(document, root, folded):
    """Return the list of the program lines of a view with folded names."""
    names = {name: True for name in folded}
    return tangle(tuple([folded_line(line, names) for line in document]), root)


def folded_line(line, names):
    """Return a reference to a folded name as the code that it gives; all else as it is."""
    if line[0] == "use" and line[2] in names:
        spaces = " " * line[1]
        return ("code", f"{spaces}<{line[2]}>")
    return line


def view_fates(document, root, folded, edits):
    """Return the fates to which edits of a view are mapped."""
    return fates_of_lines(document, fold(document, root, folded), edits)
