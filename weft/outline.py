"""Outlines: what stands below a root, how great the pieces are, and what is wrong with them."""

from weft.checks import idle_pieces, in_order_of_ends, knots, unknown_uses, used_pieces
from weft.pieces import lines_by_piece, piece_names, uses_among
from weft.weaving import numbers_by_piece


def outline(document, root):
    """Return the outline of a root as a list of (depth, name, is_first)."""
    pieces = lines_by_piece(document)
    seen = {}
    found = []
    # The walk keeps its own stack, as a row of pieces can be longer than Python's.
    waiting = [(0, root)]
    while waiting:
        depth, name = waiting.pop()
        is_first = name in pieces and name not in seen
        found.append((depth, name, is_first))
        if is_first:
            seen[name] = True
            uses = uses_among(document, pieces[name])
            waiting.extend([(depth + 1, target) for _, target in reversed(uses)])
    return found


def outline_texts(document, root):
    """Return the list of the texts of the outline of a root."""
    names = {name: True for name in piece_names(document)}
    found = []
    for depth, name, is_first in outline(document, root):
        spaces = "  " * depth
        if is_first:
            found.append(f"{spaces}{name}")
        elif name in names:
            found.append(f"{spaces}{name} (above)")
        else:
            found.append(f"{spaces}{name} (unknown)")
    return found


def sizes(document):
    """Return the list of the sizes (name, sections, lines, length) of all pieces."""
    pieces = lines_by_piece(document)
    numbers = numbers_by_piece(document)
    lengths = {}
    # A visit ends behind those of all pieces that are needed, but in a knot: there the
    # length of the next piece is not known, or is None already.
    for name in in_order_of_ends(used_pieces(document)):
        lengths[name] = known_length([document[at] for at in pieces[name]], lengths)
    return [(name, len(numbers[name]), len(pieces[name]), lengths[name]) for name in pieces]


def known_length(lines, lengths):
    """Return how many program lines some lines give, or None if one has no known length."""
    found = 0
    for line in lines:
        own = lengths.get(line[2]) if line[0] == "use" else 1
        if own is None:
            return None
        found += own
    return found


def report(document, roots):
    """Return the list of the texts that tell what is wrong with a document."""
    pieces = lines_by_piece(document)
    found = [f"line {at + 1}: unknown piece {name}" for at, name in unknown_uses(document)]
    for knot in knots(document):
        names = ", ".join(knot)
        found.append(f"knot: {names}")
    found.extend([f"idle piece {name}" for name in idle_pieces(document, roots)])
    found.extend([f"empty piece {name}" for name in pieces if pieces[name] == []])
    return found
