"""Checks: what is missing, idle, knotted or told twice in a document."""

from weft.errors import BadPlace
from weft.pieces import lines_by_piece, uses_among
from weft.turning import check_free, new_section


def unknown_uses(document):
    """Return the list of (line, name) of all references to no piece."""
    pieces = lines_by_piece(document)
    uses = [(at, line[2]) for at, line in enumerate(document) if line[0] == "use"]
    return [(at, name) for at, name in uses if name not in pieces]


def used_pieces(document):
    """Return the dict from all pieces to the lists of the pieces to which they refer."""
    pieces = lines_by_piece(document)
    used = {}
    for name in pieces:
        uses = uses_among(document, pieces[name])
        used[name] = [target for _, target in uses if target in pieces]
    return used


def visits(used, starts):
    """Walk from each start, in order, to all pieces that were not visited before.

    Returns for each start the list of the pieces visited from it, in the order in
    which the visits end.
    """
    seen = {}
    found = []
    for start in starts:
        ended = []
        # The walk keeps its own stack, as a row of pieces can be longer than Python's.
        waiting = [(start, False)]
        while waiting:
            name, is_ending = waiting.pop()
            if is_ending:
                ended.append(name)
            elif name not in seen:
                seen[name] = True
                waiting.append((name, True))
                waiting.extend([(target, False) for target in reversed(used[name])])
        found.append(ended)
    return found


def idle_pieces(document, roots):
    """Return the list of the pieces that none of the roots needs."""
    used = used_pieces(document)
    needed = {}
    for names in visits(used, [root for root in roots if root in used]):
        for name in names:
            needed[name] = True
    return [name for name in used if name not in needed]


def knots(document):
    """Return the ascending list of the knots."""
    used = used_pieces(document)
    # Walks against the references, from the piece on whose visit ends last, do not
    # leave the pieces that are knotted with their start.
    groups = visits(reversed_uses(used), in_order_of_ends(used)[::-1])
    return sorted([tuple(sorted(group)) for group in groups if is_knot(used, group)])


def in_order_of_ends(used):
    """Return the list of all pieces in the order in which the visits of them end."""
    return [name for names in visits(used, list(used)) for name in names]


def reversed_uses(used):
    """Return the dict from all pieces to the lists of the pieces that refer to them."""
    users = {name: [] for name in used}
    for name in used:
        for target in used[name]:
            users[target].append(name)
    return users


def is_knot(used, group):
    """Tell whether a group of pieces, which may be empty or have just one, is a knot."""
    if len(group) == 1:
        return group[0] in used[group[0]]
    return len(group) > 1


def depths(document):
    """Return the dict from all pieces to their depths."""
    used = used_pieces(document)
    knotted = {name: True for knot in knots(document) for name in knot}
    found = {}
    # Apart from knots, a visit ends behind those of all pieces that are referred to.
    for name in in_order_of_ends(used):
        below = [] if name in knotted else [found[target] for target in used[name]]
        if name in knotted or None in below:
            found[name] = None
        else:
            found[name] = 1 + max(below, default=0)
    return {name: found[name] for name in used}


def longest_doubles(document):
    """Return the tuple (count, first, second) of the longest doubles, or None."""
    # Runs of 1, 2, 4 .. lines, up to the first length of which there are no doubles.
    lengths = [single_lines(document)]
    while first_doubles(lengths[-1]) is not None:
        lengths.append(longer_runs(lengths[-1], lengths[-1]))
    if len(lengths) == 1:
        return None
    # As doubles lose lines and stay doubles, each length can be tried in its turn.
    longest = lengths[-2]
    for shorter in reversed(lengths[:-2]):
        longer = longer_runs(longest, shorter)
        if first_doubles(longer) is not None:
            longest = longer
    return first_doubles(longest)


def single_lines(document):
    """Return the runs of one line as (1, numbers).

    The numbers, one for each line of the document with which a run of the length
    can begin, are equal for equal texts, and None where no run begins.
    """
    known = {}
    numbers = []
    for line in document:
        is_code = line[0] == "code"
        numbers.append(known.setdefault(line[1], len(known)) if is_code else None)
    return (1, numbers)


def longer_runs(runs, more):
    """Return the runs that consist of a run of one length and one of another behind it."""
    count, numbers = runs
    more_count, more_numbers = more
    known = {}
    found = []
    for pair in zip(numbers, more_numbers[count:]):
        found.append(None if None in pair else known.setdefault(pair, len(known)))
    return (count + more_count, found)


def first_doubles(runs):
    """Return the first doubles of a length as (count, first, second), or None."""
    count, numbers = runs
    begun = {}
    best = None
    for at, number in enumerate(numbers):
        if number is None:
            continue
        first = begun.setdefault(number, at)
        if first + count <= at and (best is None or first < best[1]):
            best = (count, first, at)
    return best


def share(document, first, second, count, name):
    """Return the document with references to a new piece in the place of two runs."""
    if not are_doubles(document, first, second, count):
        raise BadPlace()
    check_free(document, name)
    run = document[first:first + count]
    reference = (("use", 0, name),)
    upper = document[:first] + reference + document[first + count:second]
    return upper + reference + document[second + count:] + new_section(name, run)


def are_doubles(document, first, second, count):
    """Tell whether runs of so many lines are doubles, the first one before the second."""
    if first < 0 or count < 1 or first + count > second or second + count > len(document):
        return False
    run = document[first:first + count]
    return run == document[second:second + count] and all([line[0] == "code" for line in run])
