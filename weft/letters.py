"""Letters: the text form of what a copy sends to a desk."""

from weft.errors import BadPatch
from weft.lines import is_name
from weft.notation import read_number, read_patch, write_patch


def write_letter(letter):
    """Return the text of a letter."""
    author, version, edits = letter
    patch = write_patch(edits)
    return f"letter {author} {version}\n{patch}"


def read_letter(text):
    """Return the letter (author, version, edits) that a text tells."""
    first, _, patch = text.partition("\n")
    author, version = read_sender(first)
    try:
        edits = read_patch(patch)
    except BadPatch as fault:
        # The patch begins in the second line of the text.
        raise BadPatch(fault.line + 1, fault.what) from None
    return (author, version, edits)


def read_sender(row):
    """Return the author and the version that the first line of a letter tells."""
    parts = row.split(" ")
    if len(parts) != 3 or parts[0] != "letter" or not is_name(parts[1]):
        raise BadPatch(1, "letter is expected")
    version = read_number(parts[2])
    if version is None:
        raise BadPatch(1, "letter is expected")
    return (parts[1], version)


def deliver(desk, text):
    """Submit the letter that a text tells to a desk; return the new version."""
    author, version, edits = read_letter(text)
    return desk.submit(author, version, edits)
