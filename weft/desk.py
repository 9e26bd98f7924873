"""Desks: a document whose program is edited by several authors."""

from weft.errors import NoVersion
from weft.lines import read
from weft.mapping import apply, program_fates
from weft.patches import moved
from weft.tangling import tangle, texts_of


class Desk:
    """A document and a root, with the edits of the program that were accepted."""

    def __init__(self, text, root):
        document = read(text)
        self._program = texts_of(tangle(document, root))
        self._document = document
        self._root = root
        # The list of (author, edits), the edits being those of the version before them.
        self._accepted = []

    def version(self):
        """Return how many edits were accepted."""
        return len(self._accepted)

    def document(self):
        """Return the document of the newest version."""
        return self._document

    def program(self):
        """Return the list of the texts of the program of the newest version."""
        return list(self._program)

    def since(self, version):
        """Return the list of the (author, edits) that were accepted behind a version."""
        self._check_version(version)
        return [(author, list(edits)) for author, edits in self._accepted[version:]]

    def submit(self, author, version, edits):
        """Accept edits of the program of a version; return the new version."""
        for _, accepted in self.since(version):
            edits = moved(edits, accepted, is_first=False)
        fates = program_fates(self._document, self._root, edits)
        document = apply(self._document, fates)
        self._program = texts_of(tangle(document, self._root))
        self._document = document
        self._accepted.append((author, list(edits)))
        return self.version()

    def _check_version(self, version):
        """Check that the desk has a version."""
        if not 0 <= version <= len(self._accepted):
            raise NoVersion(version)
