"""Copies: what an author has of the program of a desk, with edits that are under way."""

from weft.errors import BadPlace, Clash
from weft.fates import edited, is_touched, untouched
from weft.patches import compose, moved


class Copy:
    """The texts of a version of the desk, and the author's edits of them.

    Edits that were sent, if there are any, are edits of the base; those that wait are
    edits of the texts behind those that were sent. The lists are replaced, never
    changed, as the same list may be in a letter.
    """

    def __init__(self, author, texts, version):
        self.author = author
        self.base = list(texts)
        self.version = version
        self.sent = None
        self.waiting = untouched(len(self.base))

    def texts(self):
        """Return the list of the texts of the copy."""
        return edited(self._sent_texts(), self.waiting)

    def edit(self, edits):
        """Edit the texts of the copy."""
        self.waiting = compose(self.waiting, edits)

    def send(self):
        """Return a letter with the edits that wait, or None if there is nothing to send."""
        if self.sent is not None or not any([is_touched(edit) for edit in self.waiting]):
            return None
        self.sent = self.waiting
        self._give_up_waiting()
        return (self.author, self.version, list(self.sent))

    def take(self, author, edits):
        """Take the next accepted edits; tell which of the own edits are left."""
        self.base = edited(self.base, edits)
        self.version += 1
        if author == self.author and self.sent is not None:
            self.sent = None
            return "all"
        past = self._move_sent(edits)
        if past is None:
            self.refused()
            return "none"
        try:
            self.waiting = moved(self.waiting, past, is_first=False)
        except (Clash, BadPlace):
            self._give_up_waiting()
            return "sent"
        return "all"

    def refused(self):
        """Give up the edits that were sent, and those that wait."""
        self.sent = None
        self._give_up_waiting()

    def _sent_texts(self):
        """Return the list of the texts behind the edits that were sent."""
        return list(self.base) if self.sent is None else edited(self.base, self.sent)

    def _give_up_waiting(self):
        """Give up the edits that wait."""
        self.waiting = untouched(len(self._sent_texts()))

    def _move_sent(self, edits):
        """Move the edits that were sent past other ones; return these past them.

        Returns None, and moves nothing, if they cannot be moved past each other.
        """
        if self.sent is None:
            return edits
        try:
            sent = moved(self.sent, edits, is_first=False)
            past = moved(edits, self.sent, is_first=True)
        except (Clash, BadPlace):
            return None
        self.sent = sent
        return past
