"""Three ways: two hands that replace one program by other texts."""

from weft.differences import least_edits
from weft.mapping import program_fates
from weft.tangling import tangle, texts_of


def three_ways(document, root, one, other):
    """Return the fates that two hands agree on, and the clashes of the others."""
    texts = texts_of(tangle(document, root))
    one_fates = program_fates(document, root, least_edits(texts, one))
    other_fates = program_fates(document, root, least_edits(texts, other))
    both = {**one_fates, **other_fates}
    fates = {}
    clashes = []
    for line in sorted(both):
        if one_fates.get(line, both[line]) == both[line]:
            fates[line] = both[line]
        else:
            clashes.append((line, one_fates[line], other_fates[line]))
    return (fates, clashes)


def settle(fates, clashes, choices):
    """Return the fates with the chosen fate of each clash."""
    settled = dict(fates)
    for (line, fate, other), choice in zip(clashes, choices):
        settled[line] = fate if choice == "one" else other
    return {line: settled[line] for line in sorted(settled)}
