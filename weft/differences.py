"""Differences: the least edits that lead from some lines to other ones."""

from weft.errors import BadPlace
from weft.fates import DROP, KEEP


def cost_of(edits):
    """Return the cost of edits."""
    return sum([edit_cost(edit) for edit in edits])


def edit_cost(edit):
    """Return the cost of the edit of one line."""
    ahead, change, behind = edit
    changes = 0 if change == KEEP else 1
    return len(ahead) + changes + len(behind)


def least_edits(old, new):
    """Return least edits from a list of lines to another one."""
    if len(old) == 0 and len(new) > 0:
        raise BadPlace()
    targets = targets_of(old, new)
    found = []
    # From the end on, so that the new lines between two targets go behind the upper one.
    end = len(new)
    for at in reversed(range(len(old))):
        target = targets[at]
        change = DROP
        behind = ()
        if target is not None:
            change = KEEP if old[at] == new[target] else ("text", new[target])
            behind = tuple(new[target + 1:end])
            end = target
        ahead = tuple(new[:end]) if at == 0 else ()
        found.append((ahead, change, behind))
    return found[::-1]


def targets_of(old, new):
    """Return the list with the index of the new line that each old line becomes.

    It has None for old lines that are dropped. All other new lines are put in.
    """
    drops, puts = last_steps(old, new)
    targets = [None for _ in old]
    # The way back from the ends of both lists to the beginning of one of them.
    row = len(old)
    column = len(new)
    while row > 0 and column > 0:
        if has_bit(drops[column], row - 1):
            row -= 1
        elif has_bit(puts[column], row - 1):
            column -= 1
        else:
            row -= 1
            column -= 1
            targets[row] = column
    return targets


def has_bit(number, at):
    """Tell whether the bit at a place of a number is set."""
    return (number >> at) & 1 == 1


def last_steps(old, new):
    """Return which least ways end with a drop, and which ones with a new line.

    Let cost(row, column) be the least cost from the first old lines, as many as the
    row tells, to the first new lines, as many as the column tells. Two lists of
    numbers are returned. In the first one, the number of a column has the bit
    row - 1 if the cost is greater by 1 than cost(row - 1, column); in the second
    one, if it is greater by 1 than cost(row, column - 1).
    """
    every = (1 << len(old)) - 1
    places = bits_by_line(old)
    drops = [every]
    puts = [0]
    # One number stands for all rows of a column, as a table of 2000 times 2000 costs
    # would take seconds to fill. A column follows from the one before in a few steps
    # on bits (Myers, Hyyro); the sum carries a bit on along rows that stay level.
    rise = every
    fall = 0
    for line in new:
        same = places.get(line, 0)
        # The rows whose cost is that of the row above in the column before.
        level = (((same & rise) + rise) ^ rise) | same | fall
        # The rows whose cost is greater, and less, than in the column before.
        greater = fall | (every & ~(level | rise))
        less = level & rise
        # The same of the rows above them; the cost of no old lines is always greater.
        above_greater = (greater << 1) | 1
        above_less = less << 1
        # The rows whose cost is greater, and less, than in the row above.
        rise = every & (above_less | ~(level | above_greater))
        fall = every & above_greater & level
        drops.append(rise)
        puts.append(greater)
    return drops, puts


def bits_by_line(lines):
    """Return the dict from lines to numbers with the bits of all their places."""
    found = {}
    for at, line in enumerate(lines):
        found[line] = found.get(line, 0) | (1 << at)
    return found
