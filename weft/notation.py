"""Notation: the text form of edits."""

from weft.errors import BadPatch
from weft.fates import DROP, KEEP, is_touched, untouched

DIGITS = "0123456789"
MOST_DIGITS = 60
MOST_EDITS = 2000


def write_patch(edits):
    """Return the patch of edits."""
    rows = [f"edits {len(edits)}"]
    for at, edit in enumerate(edits):
        if is_touched(edit):
            rows.append(f"@ {at}")
            rows.extend(edit_rows(edit))
    return "\n".join(rows)


def edit_rows(edit):
    """Return the lines of a patch that tell what an edit does."""
    ahead, change, behind = edit
    rows = [f"^{text}" for text in ahead]
    if change == DROP:
        rows.append("-")
    elif change != KEEP:
        rows.append(f"~{change[1]}")
    return rows + [f"+{text}" for text in behind]


def read_patch(text):
    """Return the edits of a patch."""
    rows = text.split("\n")
    edits = untouched(read_count(rows[0]))
    # The index of the edit that is being read, and the sign that the row before begins with.
    at = -1
    sign = ""
    for number, row in enumerate(rows[1:], start=2):
        what = row_fault(row, sign, at, len(edits))
        if what is not None:
            raise BadPatch(number, what)
        sign = row[0]
        if sign == "@":
            at = read_index(row)
        else:
            edits[at] = with_row(edits[at], row)
    if sign == "@":
        raise BadPatch(len(rows), "nothing is edited")
    return edits


def read_count(row):
    """Return the number of edits that the first line of a patch tells."""
    count = read_number(row[6:]) if row.startswith("edits ") else None
    if count is None or count > MOST_EDITS:
        raise BadPatch(1, "count is expected")
    return count


def read_index(row):
    """Return the index that a line of a patch tells, or None if it tells none."""
    return read_number(row[2:]) if row.startswith("@ ") else None


def read_number(text):
    """Return the number that is written in digits, or None if none is."""
    if not 1 <= len(text) <= MOST_DIGITS or not all([sign in DIGITS for sign in text]):
        return None
    if text != "0" and text.startswith("0"):
        return None
    return int(text)


def row_fault(row, sign, at, count):
    """Return what is wrong with a line of a patch, or None.

    It stands behind a line with this sign, in the edit at this index of so many.
    """
    index = read_index(row)
    if index is not None:
        return index_fault(index, sign, at, count)
    if sign == "":
        return "edit is expected"
    if row == "-" or row.startswith("~") or row.startswith("^"):
        return None if sign in "@^" else "order is wrong"
    if row.startswith("+"):
        return None
    return "line is not known"


def index_fault(index, sign, at, count):
    """Return what is wrong with a line that tells an index, or None."""
    if sign == "@":
        return "nothing is edited"
    if index <= at:
        return "index is not ascending"
    if index >= count:
        return "index is not in the list"
    return None


def with_row(edit, row):
    """Return an edit with what a line of a patch adds to it."""
    ahead, change, behind = edit
    text = row[1:]
    if row[0] == "^":
        return (ahead + (text,), change, behind)
    if row[0] == "+":
        return (ahead, change, behind + (text,))
    return (ahead, DROP if row[0] == "-" else ("text", text), behind)
