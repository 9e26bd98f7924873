"""Turnings: changes of a document that leave the texts of its programs as they are."""

from weft.errors import BadPlace, NoPiece, Ring, Taken
from weft.pieces import piece_lines, piece_names, section_end, sections
from weft.tangling import indented

EMPTY_LINE = ("prose", "")


def rename(document, old, new):
    """Return the document with a new name for a piece."""
    if old not in piece_names(document):
        raise NoPiece(old)
    check_free(document, new)
    return tuple([renamed(line, old, new) for line in document])


def renamed(line, old, new):
    """Return a line with the new name if it has the old one."""
    if line == ("head", old):
        return ("head", new)
    if line[0] == "use" and line[2] == old:
        return ("use", line[1], new)
    return line


def check_free(document, name):
    """Check that no section and no reference of a document has a name."""
    for line in document:
        if line[0] in ("head", "use") and line[-1] == name:
            raise Taken(name)


def take_out(document, first, last, name):
    """Return the document with some lines as a new piece, and a reference in their place."""
    if not 0 <= first <= last < len(document):
        raise BadPlace()
    lines = document[first:last + 1]
    if not all([in_section(line) for line in lines]):
        raise BadPlace()
    check_free(document, name)
    rooms = [room_of(line) for line in lines]
    indent = min([room for room in rooms if room is not None], default=0)
    reference = ("use", indent, name)
    inner = tuple([shifted(line, -indent) for line in lines])
    return document[:first] + (reference,) + document[last + 1:] + new_section(name, inner)


def in_section(line):
    """Tell whether a line is code or a reference."""
    return line[0] in ("code", "use")


def room_of(line):
    """Return how many spaces a line can lose at its beginning; None for empty code."""
    if line[0] == "use":
        return line[1]
    if line[1] == "":
        return None
    spaces = len(line[1]) - len(line[1].lstrip(" "))
    # Code that is not empty must not become empty, as its program line is not either.
    return min(spaces, len(line[1]) - 1)


def shifted(line, indent):
    """Return a line of code or a reference with so many spaces more, or less if below 0."""
    if line[0] == "use":
        return ("use", line[1] + indent, line[2])
    if indent < 0:
        return ("code", line[1][-indent:])
    return ("code", indented(line[1], indent))


def new_section(name, lines):
    """Return the lines that a new section at the end of a document adds to it."""
    return (EMPTY_LINE, ("head", name)) + lines


def put_in(document, at):
    """Return the document with the lines of its piece in the place of a reference."""
    if not has_kind(document, at, ("use",)):
        raise BadPlace()
    _, indent, name = document[at]
    if name not in piece_names(document):
        raise NoPiece(name)
    lines = piece_lines(document, name)
    if at in lines:
        raise Ring((name,))
    inner = tuple([shifted(document[line], indent) for line in lines])
    return document[:at] + inner + document[at + 1:]


def has_kind(document, at, kinds):
    """Tell whether there is a line at an index, and it has one of some kinds."""
    return 0 <= at < len(document) and document[at][0] in kinds


def split(document, at):
    """Return the document with a section split before a line."""
    if not has_kind(document, at, ("code", "use")):
        raise BadPlace()
    if not has_kind(document, at - 1, ("code", "use")):
        raise BadPlace()
    head = ("head", section_name(document, at))
    return document[:at] + (EMPTY_LINE, head) + document[at:]


def section_name(document, at):
    """Return the name of the section that has the line at an index, which is no prose."""
    while document[at][0] != "head":
        at -= 1
    return document[at][1]


def join(document, at):
    """Return the document with a section joined to the one before it."""
    if not has_kind(document, at, ("head",)):
        raise BadPlace()
    start = at
    while start > 0 and document[start - 1] == EMPTY_LINE:
        start -= 1
    if not has_kind(document, start - 1, ("head", "code", "use")):
        raise BadPlace()
    if section_name(document, start - 1) != document[at][1]:
        raise BadPlace()
    return document[:start] + document[at + 1:]


def move_section(document, at, target):
    """Return the document with a section moved to a target."""
    if not has_kind(document, at, ("head",)):
        raise BadPlace()
    if not 0 <= target <= len(document) or has_kind(document, target, ("code", "use")):
        raise BadPlace()
    end = section_end(document, at)
    section = document[at:end]
    if target <= at:
        found = document[:target] + section + document[target:at] + document[end:]
    else:
        found = document[:at] + document[end:target] + section + document[target:]
    name = document[at][1]
    if lines_by_section(found, name) != lines_by_section(document, name):
        raise BadPlace()
    return found


def lines_by_section(document, name):
    """Return the list of the lines of each section of a piece, in order."""
    return [document[head + 1:end] for own, head, end in sections(document) if own == name]
