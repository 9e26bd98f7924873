"""Edits of lists of texts, and fates, which are edits of the lines of a document."""

KEEP = ("keep",)
DROP = ("drop",)
UNTOUCHED = ((), ("keep",), ())


def untouched(count):
    """Return the list of so many edits that change nothing."""
    return [UNTOUCHED for _ in range(count)]


def is_touched(edit):
    """Tell whether an edit is touched."""
    return edit != UNTOUCHED


def edited(texts, edits):
    """Return the list of the edited texts."""
    found = []
    for text, (ahead, change, behind) in zip(texts, edits):
        found.extend(ahead)
        found.extend(changed(text, change))
        found.extend(behind)
    return found


def changed(text, change):
    """Return the list of the text to which a change leads; it is empty for a drop."""
    if change == KEEP:
        return [text]
    if change == DROP:
        return []
    return [change[1]]
