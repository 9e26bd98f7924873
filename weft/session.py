"""Sessions: a document that is edited from both sides, with ways back."""

from weft.differences import least_edits
from weft.errors import TooLong
from weft.lines import read
from weft.mapping import apply, program_fates, woven_fates
from weft.merging import merge
from weft.pieces import lines_by_piece, walk
from weft.tangling import MOST_LINES, indented, length, texts_of
from weft.weaving import weave

MOST_EARLIER = 50


class Session:
    """A document and a root, with the documents before and behind it."""

    def __init__(self, text, root):
        document = read(text)
        kept, made = kept_pieces(document, root, {})
        self._root = root
        self._document = document
        self._kept = kept
        self._made = made
        self._earlier = []
        self._later = []

    def document(self):
        """Return the present document."""
        return self._document

    def program(self):
        """Return the list of the texts of the program."""
        _, texts = self._kept[self._root]
        return list(texts)

    def woven(self):
        """Return the list of the texts of the woven text."""
        return texts_of(weave(self._document))

    def pieces_made(self):
        """Return how many pieces were tangled anew for the present document."""
        return self._made

    def edit_program(self, edits):
        """Edit the program; return how many pieces were tangled anew."""
        return self._change(program_fates(self._document, self._root, edits))

    def edit_woven(self, edits):
        """Edit the woven text; return how many pieces were tangled anew."""
        return self._change(woven_fates(self._document, edits))

    def edit_both(self, program_edits, woven_edits):
        """Edit the program and the woven text; return how many pieces were tangled anew."""
        one = program_fates(self._document, self._root, program_edits)
        other = woven_fates(self._document, woven_edits)
        return self._change(merge(one, other))

    def replace_program(self, texts):
        """Give the program other texts; return how many pieces were tangled anew."""
        return self.edit_program(least_edits(self.program(), texts))

    def undo(self):
        """Go back to the newest earlier document; tell whether there was one."""
        if self._earlier == []:
            return False
        before = self._document
        self._go(self._earlier[-1])
        self._earlier.pop()
        self._later.append(before)
        return True

    def redo(self):
        """Go to the newest later document; tell whether there was one."""
        if self._later == []:
            return False
        before = self._document
        self._go(self._later[-1])
        self._later.pop()
        self._earlier.append(before)
        return True

    def _change(self, fates):
        """Apply fates to the document; return how many pieces were tangled anew."""
        before = self._document
        self._go(apply(before, fates))
        self._earlier = (self._earlier + [before])[-MOST_EARLIER:]
        self._later = []
        return self._made

    def _go(self, document):
        """Go to a document; if it has no program of the root, nothing changes."""
        kept, made = kept_pieces(document, self._root, self._kept)
        self._document = document
        self._kept = kept
        self._made = made


def kept_pieces(document, root, before):
    """Return the pieces that a root needs, and how many of them are tangled anew.

    The pieces are a dict from their names to (lines, texts of the program). Those
    of the document before are taken over where nothing that they need has changed.
    """
    if length(document, root) > MOST_LINES:
        raise TooLong()
    indexes = lines_by_piece(document)
    _, ended = walk(document, root)
    kept = {}
    made = {}
    # A visit ends behind those of all pieces that are needed, so these are kept by then.
    for name in ended:
        lines = [document[at] for at in indexes[name]]
        needs_made = any([line[0] == "use" and line[2] in made for line in lines])
        if name in before and before[name][0] == lines and not needs_made:
            kept[name] = before[name]
        else:
            kept[name] = (lines, program_texts(lines, kept))
            made[name] = True
    return kept, len(made)


def program_texts(lines, kept):
    """Return the texts of the program of some lines; kept has the pieces that they use."""
    found = []
    for line in lines:
        if line[0] == "code":
            found.append(line[1])
        else:
            _, texts = kept[line[2]]
            found.extend([indented(text, line[1]) for text in texts])
    return found
