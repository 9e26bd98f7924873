"""What holds for every document and all edits, tried on many made ones."""

import unittest

from tests.made import CODE, NAMES, PROSE, documents, some_edits, some_fates
from tests.support import DROP, KEEP, outcome
from weft.errors import Missing, Ring
from weft.fates import edited, is_touched, untouched
from weft.lines import is_code, is_prose, read, write
from weft.mapping import apply, program_fates, woven_fates
from weft.pieces import closure, piece_lines, piece_names, sections, uses_of, users_of
from weft.places import first_lines, occurrences
from weft.tangling import indent_of, length, tangle, texts_of
from weft.weaving import weave


def some_edit(rng, texts):
    ahead, change, behind = some_edits(rng, 1, texts)[0]
    return (rng.choice([(), (), ahead]), change, behind)


def naive_program(document, name, path, active):
    """Tangle by the words of points 10 and 11, piece by piece."""
    found = []
    for at in piece_lines(document, name):
        line = document[at]
        if line[0] == "code":
            text = line[1] and " " * indent_of(document, path) + line[1]
            found.append((text, at, path))
        elif piece_lines(document, line[2]) == [] and line[2] not in piece_names(document):
            raise Missing(at, line[2])
        elif line[2] in active:
            raise Ring(tuple(active[active.index(line[2]):]))
        else:
            found.extend(naive_program(document, line[2], path + (at,), active + [line[2]]))
    return found


def shifted(texts, indentation):
    return tuple([text and " " * indentation + text for text in texts])


def shifted_edit(document, line, fates, indentation):
    """Return the edit of a line of a program, or a woven text, that asks for these fates."""
    _, change, behind = fates.get(line, ((), KEEP, ()))
    if change[0] == "text":
        change = ("text", shifted((change[1],), indentation)[0])
    return ((), change, shifted(behind, indentation))


class Properties(unittest.TestCase):
    def test_text_and_document_tell_the_same(self):
        for _, document in documents(False):
            self.assertEqual(read(write(document)), document)
            self.assertEqual(write(read(write(document))), write(document))

    def test_pieces_have_all_lines_of_sections(self):
        for _, document in documents(False):
            lines = sorted([at for name in piece_names(document)
                            for at in piece_lines(document, name)])
            self.assertEqual(
                lines, [at for at, line in enumerate(document) if line[0] in ("code", "use")])
            self.assertEqual(
                lines, [at for _, head, end in sections(document) for at in range(head + 1, end)])
            uses = sorted([use for name in piece_names(document) for use in uses_of(document, name)])
            users = sorted([(at, name) for name in NAMES + ["e"]
                            for at in users_of(document, name)])
            self.assertEqual(uses, users)

    def test_programs(self):
        for _, document in documents(False):
            for root in piece_names(document):
                expected = outcome(naive_program, document, root, (), [root])
                self.assertEqual(outcome(tangle, document, root), expected)
                if isinstance(expected, list):
                    self.assertEqual(length(document, root), len(expected))
                else:
                    self.assertEqual(outcome(length, document, root), expected)
                    self.assertEqual(outcome(closure, document, root), expected)

    def test_occurrences(self):
        for _, document in documents(True):
            program = tangle(document, piece_names(document)[0])
            pairs = [(at, line) for line, places in occurrences(program).items() for at in places]
            self.assertEqual(sorted(pairs), [(at, line[1]) for at, line in enumerate(program)])

    def test_accepted_program_edits_give_the_edited_program(self):
        accepted = 0
        for rng, document in documents(True):
            for root in piece_names(document):
                program = tangle(document, root)
                texts = CODE + [" " * at + text for at in (1, 2) for text in CODE]
                edits = untouched(len(program))
                for _ in range(min(2, len(program))):
                    edits[rng.randrange(len(program))] = some_edit(rng, texts)
                fates = outcome(program_fates, document, root, edits)
                if isinstance(fates, dict):
                    accepted += 1
                    self.check_fates(document, fates)
                    self.assertEqual(texts_of(tangle(apply(document, fates), root)),
                                     edited(texts_of(program), edits))
        self.assertGreater(accepted, 100)

    def test_accepted_woven_edits_give_the_edited_text(self):
        accepted = 0
        for rng, document in documents(False):
            woven = weave(document)
            edits = untouched(len(woven))
            texts = PROSE + ["    " + text for text in CODE]
            for _ in range(2):
                edits[rng.randrange(len(woven))] = some_edit(rng, texts)
            fates = outcome(woven_fates, document, edits)
            if isinstance(fates, dict):
                accepted += 1
                self.check_fates(document, fates)
                self.assertEqual(texts_of(weave(apply(document, fates))),
                                 edited(texts_of(woven), edits))
        self.assertGreater(accepted, 50)

    def check_fates(self, document, fates):
        """Check that fates are such as point 18 tells, and lead to a document."""
        for at, fate in fates.items():
            ahead, change, behind = fate
            self.assertTrue(is_touched(fate))
            self.assertEqual(ahead, ())
            if document[at][0] in ("head", "use"):
                self.assertEqual(change, KEEP)
            fits = is_prose if document[at][0] == "prose" else is_code
            self.assertTrue(all([fits(text) for text in change[1:] + behind]))
        new = apply(document, fates)
        self.assertEqual(read(write(new)), new)

    def test_what_fates_do_to_a_program_is_mapped_back_to_them(self):
        for rng, document in documents(True):
            for root in piece_names(document):
                fates = some_fates(rng, document)
                # A program cannot tell what stands behind references, or heads of no line.
                program = tangle(document, root)
                lines = occurrences(program)
                firsts = [at for at in first_lines(document) if at in lines]
                fates = {at: fates[at] for at in fates if at in lines or at + 1 in firsts}
                edits = []
                for _, line, path in program:
                    indentation = indent_of(document, path)
                    edit = shifted_edit(document, line, fates, indentation)
                    if line in firsts and line - 1 in fates:
                        edit = (shifted(fates[line - 1][2], indentation), edit[1], edit[2])
                    edits.append(edit)
                blank = [text for edit, (_, _, path) in zip(edits, program)
                         for text in edit[0] + edit[1][1:] + edit[2]
                         if text and text == " " * indent_of(document, path)]
                self.assertEqual(blank, [])
                self.assertEqual(program_fates(document, root, edits), fates)

    def test_what_fates_do_to_a_woven_text_is_mapped_back_to_them(self):
        for rng, document in documents(False):
            fates = some_fates(rng, document)
            edits = []
            for _, line in weave(document):
                margin = 0 if line is None or document[line][0] == "prose" else 4
                edits.append(shifted_edit(document, line, fates, margin))
            self.assertEqual(woven_fates(document, edits), fates)
            self.assertEqual(texts_of(weave(apply(document, fates))),
                             edited(texts_of(weave(document)), edits))
