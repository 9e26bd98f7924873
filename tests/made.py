"""Documents and edits from a random source, for what holds for all of them.

The seeds are fixed, so each run tries the same ones.
"""

import random

from tests.support import DROP, KEEP
from weft.fates import is_touched

NAMES = ["a", "b", "c", "d"]
CODE = ["", "x", " ", "  y", "= a", "|", "<b", "   z z"]
PROSE = ["", "", "p", "    q", "<a>", "[1] a"]


def some_document(rng, in_order):
    """Return a document; in_order rules out rings and references to no piece."""
    lines = [("prose", rng.choice(PROSE)) for _ in range(rng.randrange(3))]
    for _ in range(rng.randrange(1, 7)):
        at = rng.randrange(4)
        lines.append(("head", NAMES[at]))
        for _ in range(rng.randrange(4)):
            usable = NAMES[at + 1:] if in_order else NAMES + ["e"]
            if usable and rng.random() < 0.5:
                lines.append(("use", rng.randrange(4), rng.choice(usable)))
            else:
                lines.append(("code", rng.choice(CODE)))
        lines.extend([("prose", rng.choice(PROSE)) for _ in range(rng.randrange(3))])
    if in_order:
        lines.extend([("head", name) for name in NAMES])
    return tuple(lines)


def documents(in_order, count=400):
    """Give so many pairs of a random source and a document."""
    for seed in range(count):
        rng = random.Random(seed)
        yield rng, some_document(rng, in_order)


def some_edits(rng, count, texts="abc"):
    """Return edits of a list of so many texts."""
    return [(some_row(rng, texts), some_change(rng, texts), some_row(rng, texts))
            for _ in range(count)]


def some_row(rng, texts):
    return tuple([rng.choice(texts) for _ in range(rng.choice([0, 0, 0, 1, 2]))])


def some_change(rng, texts):
    return rng.choice([KEEP, KEEP, DROP, ("text", rng.choice(texts))])


def some_fates(rng, document):
    """Return fates that change each line of the document that they have."""
    fates = {}
    for at, line in enumerate(document):
        texts = PROSE if line[0] == "prose" else CODE
        change = rng.choice([KEEP, DROP, ("text", rng.choice(texts))])
        if line[0] in ("head", "use") or change == ("text", line[1]):
            change = KEEP
        fate = ((), change, some_row(rng, texts))
        if is_touched(fate) and rng.random() < 0.5:
            fates[at] = fate
    return fates
