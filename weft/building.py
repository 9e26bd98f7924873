"""Builds: the programs of several roots of one document."""

from weft.errors import Apart, BuildRefused, Unfit
from weft.mapping import check_length, fates_of, sayings
from weft.pieces import piece_names
from weft.tangling import tangle


def roots_of(document):
    """Return the list of the pieces to which no reference refers."""
    used = {line[2]: True for line in document if line[0] == "use"}
    return [name for name in piece_names(document) if name not in used]


def build(document, roots):
    """Return the list of the programs of some roots."""
    return [tangle(document, root) for root in roots]


def build_fates(document, roots, edits):
    """Return the fates to which the edits of each program of a build are mapped."""
    programs = build(document, roots)
    said = build_sayings(document, roots, programs, edits)
    for program, own in zip(programs, edits):
        check_length(program, own)
    return fates_of(said)


def build_sayings(document, roots, programs, edits):
    """Return the dict from document lines to what the edits of a build say of them."""
    # The programs are examined as one; the places tell where its lines come from.
    lines = [line for program in programs for line in program]
    lines_edits = [edit for own in edits for edit in own]
    places = []
    for root, program in zip(roots, programs):
        places.extend([(root, at) for at in range(len(program))])
    try:
        return sayings(document, lines, lines_edits)
    except Unfit as unfit:
        root, at = places[unfit.at]
        raise BuildRefused(root, at, unfit.what, "", -1) from None
    except Apart as apart:
        root, at = places[apart.at]
        other_root, other = places[apart.other]
        raise BuildRefused(root, at, "apart", other_root, other) from None
