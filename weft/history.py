"""Histories: documents with all changes that were made, each of which can be taken back."""

from weft.errors import Held, NoChange
from weft.fates import DROP, KEEP
from weft.lines import read
from weft.mapping import fated
from weft.tangling import tangle


class Change:
    """What one change does to the lines of a history, which are told by their keys."""

    def __init__(self, author, changes, behind):
        self.author = author
        self.stands = True
        # The dicts from lines to how they change, and to the keys of the lines behind them.
        self.changes = changes
        self.behind = behind


class History:
    """A document with the changes that led to it."""

    def __init__(self, text):
        start = read(text)
        # The key of a line is its place in this list of (line, number of its change),
        # to which lines are only added. The start counts as the change 0.
        self._lines = [(line, 0) for line in start]
        # The keys of the lines of the start and of all standing changes, also dropped ones.
        self._order = list(range(len(start)))
        self._changes = []

    def document(self):
        """Return the present document."""
        return tuple([line for _, line, _ in self._present()])

    def change(self, author, fates):
        """Make a change of the present document; return its number."""
        number = len(self._changes) + 1
        present = self._present()
        changes = {}
        behind = {}
        added = []
        for at in sorted(fates):
            key, line, _ = present[at]
            _, change, texts = fates[at]
            if change != KEEP:
                changes[key] = change
            if texts != ():
                first = len(self._lines) + len(added)
                behind[key] = list(range(first, first + len(texts)))
                added.extend([(new, number) for new in fated(line, ((), DROP, texts))])
        order = []
        for key in self._order:
            order.append(key)
            order.extend(behind.get(key, []))
        self._order = order
        self._lines.extend(added)
        self._changes.append(Change(author, changes, behind))
        return number

    def log(self):
        """Return the list of (number, author, whether it stands) of all changes."""
        return [(number, change.author, change.stands)
                for number, change in enumerate(self._changes, start=1)]

    def blame(self):
        """Return the list of the changes to which the present lines are due."""
        return [number for _, _, number in self._present()]

    def program_blame(self, root):
        """Return the list of the changes to which the lines of a program are due."""
        blame = self.blame()
        return [blame[line] for _, line, _ in tangle(self.document(), root)]

    def take_back(self, number):
        """Take a standing change back."""
        if not 1 <= number <= len(self._changes) or not self._changes[number - 1].stands:
            raise NoChange(number)
        for by in range(number + 1, len(self._changes) + 1):
            if self._is_held(number, by):
                raise Held(number, by)
        self._changes[number - 1].stands = False
        self._order = [key for key in self._order if self._lines[key][1] != number]

    def _present(self):
        """Return the list of (key, line, number of the change to blame) of present lines."""
        # Nothing changes a dropped line, so the last change of a line tells all.
        last = {}
        for number, change in enumerate(self._changes, start=1):
            if change.stands:
                for key in change.changes:
                    last[key] = (number, change.changes[key])
        found = []
        for key in self._order:
            line, put_in_by = self._lines[key]
            number, change = last.get(key, (put_in_by, KEEP))
            found.extend([(key, new, number) for new in fated(line, ((), change, ()))])
        return found

    def _is_held(self, number, by):
        """Tell whether the later change `by` keeps a change from being taken back."""
        earlier = self._changes[number - 1]
        later = self._changes[by - 1]
        if not later.stands:
            return False
        for key in later.changes:
            if key in earlier.changes or self._lines[key][1] == number:
                return True
        return any([self._lines[key][1] == number for key in later.behind])
