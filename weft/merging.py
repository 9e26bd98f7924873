"""Merging: the fates that two hands give to the lines of one document."""

from weft.errors import Both


def merge(one, other):
    """Return the merged fates of two hands."""
    for line in sorted(one):
        if line in other and one[line] != other[line]:
            raise Both(line)
    merged = {**one, **other}
    return {line: merged[line] for line in sorted(merged)}
