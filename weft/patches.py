"""Patches: edits of lists of texts one after the other, back again, and of two hands."""

from weft.errors import BadPlace, Clash
from weft.fates import DROP, KEEP, UNTOUCHED, edited


def compose(first, second):
    """Return the edits of a list that do what two edits do one after the other."""
    composed = []
    # The second edits are those of the lines that the first ones give, in order.
    start = 0
    for ahead, change, behind in first:
        at = start + len(ahead)
        is_dropped = change == DROP
        rest = at if is_dropped else at + 1
        end = rest + len(behind)
        own_ahead, own_change, own_behind = UNTOUCHED if is_dropped else second[at]
        new_ahead = tuple(edited(ahead, second[start:at])) + own_ahead
        new_change = change if own_change == KEEP else own_change
        new_behind = own_behind + tuple(edited(behind, second[rest:end]))
        composed.append((new_ahead, new_change, new_behind))
        start = end
    return composed


def inverse(texts, edits):
    """Return the edits of the edited texts that lead back to the texts."""
    row = []
    for text, (ahead, change, behind) in zip(texts, edits):
        row.extend([("line", DROP) for _ in ahead])
        if change == DROP:
            row.append(("new", text))
        elif change in (KEEP, ("text", text)):
            row.append(("line", KEEP))
        else:
            row.append(("line", ("text", text)))
        row.extend([("line", DROP) for _ in behind])
    return edits_of_row(row)


def edits_of_row(row):
    """Return the edits that a row of tokens gives.

    A token is ("line", change) for the next line of a list, or ("new", text).
    """
    ahead = []
    lines = []
    for kind, content in row:
        if kind == "line":
            lines.append((content, []))
        elif lines == []:
            ahead.append(content)
        else:
            lines[-1][1].append(content)
    if ahead != [] and lines == []:
        raise BadPlace()
    edits = [((), change, tuple(behind)) for change, behind in lines]
    if ahead != []:
        _, change, behind = edits[0]
        edits[0] = (tuple(ahead), change, behind)
    return edits


def join(one, other):
    """Return the joined edits of two hands."""
    changes = joined_changes(one, other)
    joined = []
    for (ahead, _, behind), change, (other_ahead, _, other_behind) in zip(one, changes, other):
        joined.append((ahead + other_ahead, change, behind + other_behind))
    return joined


def joined_changes(one, other):
    """Return the list of the changes of two hands; check that they do not clash."""
    changes = []
    for at, (edit, other_edit) in enumerate(zip(one, other)):
        change = edit[1]
        other_change = other_edit[1]
        if change != KEEP and other_change != KEEP and change != other_change:
            raise Clash(at)
        changes.append(other_change if change == KEEP else change)
    return changes


def moved(edits, past, *, is_first):
    """Return the edits of one hand, moved past the edits of the other hand."""
    joined_changes(edits, past)
    row = []
    for (ahead, change, behind), (past_ahead, past_change, past_behind) in zip(edits, past):
        row.extend(side_by_side(ahead, past_ahead, is_first))
        if past_change != DROP:
            row.append(("line", KEEP if change == past_change else change))
        row.extend(side_by_side(behind, past_behind, is_first))
    return edits_of_row(row)


def side_by_side(texts, past_texts, is_first):
    """Return the tokens of new texts, and of the lines of the other hand at their place."""
    new = [("new", text) for text in texts]
    lines = [("line", KEEP) for _ in past_texts]
    return new + lines if is_first else lines + new
