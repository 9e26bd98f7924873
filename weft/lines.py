"""Documents and their text form."""

from weft.errors import BadDocument

LONGEST_NAME = 20
NAME_SIGNS = "abcdefghijklmnopqrstuvwxyzABCDEFGHIJKLMNOPQRSTUVWXYZ0123456789_.-"


def read(text):
    """Return the document of a text."""
    document = []
    for at, written in enumerate(text.split("\n")):
        fault = fault_of(written, document)
        if fault is not None:
            column, what = fault
            raise BadDocument(at + 1, column, what)
        document.append(read_line(written))
    return tuple(document)


def fault_of(written, before):
    """Return the first fault of a line behind other lines, as (column, what), or None."""
    if written.startswith("="):
        return head_fault(written)
    if written.startswith("|") and (not before or before[-1][0] == "prose"):
        return (1, "code without a head")
    return None


def head_fault(written):
    """Return the first fault of the line of a head, as (column, what), or None."""
    if written[1:2] != " ":
        return (2, "space is expected")
    name = written[2:]
    if name == "":
        return (3, "name is expected")
    for at, sign in enumerate(name[:LONGEST_NAME + 1]):
        if sign not in NAME_SIGNS:
            return (at + 3, "character cannot be in a name")
    if len(name) > LONGEST_NAME:
        return (LONGEST_NAME + 3, "name is longer than 20")
    return None


def read_line(written):
    """Return the line of a document that is written in this way and has no fault."""
    if written.startswith("="):
        return ("head", written[2:])
    if written.startswith("|"):
        return read_rest(written[1:])
    return ("prose", written)


def read_rest(rest):
    """Return the reference or the line of code that is written behind a bar."""
    tag = rest.lstrip(" ")
    name = tag[1:-1]
    if tag.startswith("<") and tag.endswith(">") and is_name(name):
        return ("use", len(rest) - len(tag), name)
    return ("code", rest)


def write(document):
    """Return the text from which a document is read."""
    return "\n".join([write_line(line) for line in document])


def write_line(line):
    """Return the text of one line of a document."""
    if line[0] == "head":
        return f"= {line[1]}"
    if line[0] == "use":
        spaces = " " * line[1]
        return f"|{spaces}<{line[2]}>"
    if line[0] == "code":
        return f"|{line[1]}"
    return line[1]


def is_name(text):
    """Tell whether a text is a name."""
    return 1 <= len(text) <= LONGEST_NAME and all([sign in NAME_SIGNS for sign in text])


def is_code(text):
    """Tell whether a text can be code."""
    return "\n" not in text and read_rest(text)[0] == "code"


def is_prose(text):
    """Tell whether a text can be prose."""
    return "\n" not in text and not text.startswith("=") and not text.startswith("|")
