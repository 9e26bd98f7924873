"""Points 1 to 3, which hold over the whole program."""

import ast
import copy
import importlib

from tests.support import DROP, KEEP, SAME, WeftTest, behind, outcome, text_of, to
from tests.test_language import CLASSES, MODULES, PACKAGE, called_name, parsed
from weft.errors import WeftError
from weft.fates import edited, untouched
from weft.lines import is_code, read
from weft.mapping import apply, program_fates
from weft.tangling import tangle, texts_of

DOCUMENT = read(text_of(
    "p",          # 0
    "= a",        # 1
    "|one two",   # 2
    "|  <b>",     # 3
    "|one two",   # 4
    "|  <b>",     # 5
    "",           # 6
    "= b",        # 7
    "|x",         # 8
    "= b",        # 9
    "|y",         # 10
    "= k",        # 11
    "|<k>",       # 12
    "|<none>",    # 13
))
PROGRAM = tangle(DOCUMENT, "a")
EDITS = [behind("n"), SAME, ((), DROP, ()), SAME, SAME, ((), DROP, ())]
BAD_EDITS = [SAME, behind("  n"), SAME, SAME, behind("<x>"), SAME]
WOVEN_EDITS = [((), to("q"), ("r",)), *untouched(20)]
FATES = {0: ((), to("q"), ()), 8: ((), DROP, ("m",))}
OTHER_FATES = {8: ((), DROP, ("m",)), 10: behind("w")}
CLASHES = [(2, ((), DROP, ()), behind("z"))]
LETTER = ("ann", 0, EDITS)
PATCH = "edits 2\n@ 1\n~b\n+c"

# For each function of the interface, by its module, arguments that do not make it raise
# an error, and some that do.
CALLS = {
    "lines.read": [("p\n= a\n|x",), ("|",)],
    "lines.write": [(DOCUMENT,)],
    "lines.is_name": [("a",)],
    "lines.is_code": [("a",)],
    "lines.is_prose": [("a",)],
    "pieces.sections": [(DOCUMENT,)],
    "pieces.piece_names": [(DOCUMENT,)],
    "pieces.piece_lines": [(DOCUMENT, "a"), (DOCUMENT, "none")],
    "pieces.uses_of": [(DOCUMENT, "a")],
    "pieces.users_of": [(DOCUMENT, "b")],
    "pieces.closure": [(DOCUMENT, "a"), (DOCUMENT, "k"), (DOCUMENT, "none")],
    "tangling.length": [(DOCUMENT, "a"), (DOCUMENT, "k")],
    "tangling.tangle": [(DOCUMENT, "a"), (DOCUMENT, "k")],
    "tangling.indent_of": [(DOCUMENT, (3,))],
    "tangling.texts_of": [(PROGRAM,)],
    "weaving.weave": [(DOCUMENT,)],
    "places.occurrences": [(PROGRAM,)],
    "places.first_lines": [(DOCUMENT,)],
    "fates.untouched": [(3,)],
    "fates.is_touched": [(SAME,), (behind("x"),)],
    "fates.edited": [(texts_of(PROGRAM), EDITS)],
    "mapping.program_fates": [(DOCUMENT, "a", EDITS), (DOCUMENT, "a", BAD_EDITS)],
    "mapping.woven_fates": [(DOCUMENT, WOVEN_EDITS), (DOCUMENT, [behind("=")] * 21)],
    "mapping.apply": [(DOCUMENT, FATES)],
    "merging.merge": [(FATES, OTHER_FATES), (FATES, {0: behind("q")})],
    "differences.least_edits": [(["x", "y"], ["y", "z"]), ([], ["x"])],
    "differences.cost_of": [(EDITS,)],
    "turning.rename": [(DOCUMENT, "a", "c"), (DOCUMENT, "none", "c")],
    "turning.take_out": [(DOCUMENT, 2, 3, "c"), (DOCUMENT, 0, 3, "c")],
    "turning.put_in": [(DOCUMENT, 3), (DOCUMENT, 2)],
    "turning.split": [(DOCUMENT, 3), (DOCUMENT, 2)],
    "turning.join": [(DOCUMENT, 9), (DOCUMENT, 7)],
    "turning.move_section": [(DOCUMENT, 1, 14), (DOCUMENT, 7, 14)],
    "patches.compose": [(EDITS, untouched(5))],
    "patches.inverse": [(texts_of(PROGRAM), EDITS), (["x"], [((), DROP, ())])],
    "patches.join": [(EDITS, EDITS), ([((), DROP, ())], [((), to("x"), ())])],
    "patches.moved": [],  # It has a keyword; see below.
    "notation.write_patch": [(EDITS,)],
    "notation.read_patch": [(PATCH,), ("edits 2\n@ 1",)],
    "positions.from_program": [(DOCUMENT, PROGRAM, 1, 2)],
    "positions.to_program": [(DOCUMENT, PROGRAM, 8, 1)],
    "positions.to_woven": [(DOCUMENT, 8, 1), (DOCUMENT, 8, 0)],
    "positions.from_woven": [(DOCUMENT, 0, 1), (DOCUMENT, 3, 1)],
    "positions.trace": [(DOCUMENT, PROGRAM, 1, 2)],
    "positions.spans": [(DOCUMENT, PROGRAM, (0, 1), (2, 3))],
    "checks.unknown_uses": [(DOCUMENT,)],
    "checks.idle_pieces": [(DOCUMENT, ["a"])],
    "checks.knots": [(DOCUMENT,)],
    "checks.depths": [(DOCUMENT,)],
    "checks.longest_doubles": [(DOCUMENT,), (read("p"),)],
    "checks.share": [(DOCUMENT, 2, 4, 1, "c"), (DOCUMENT, 2, 3, 1, "c")],
    "building.roots_of": [(DOCUMENT,)],
    "building.build": [(DOCUMENT, ["a", "b"]), (DOCUMENT, ["a", "k"])],
    "building.build_fates": [(DOCUMENT, ["a"], [EDITS]), (DOCUMENT, ["a"], [BAD_EDITS])],
    "threeways.three_ways": [
        (DOCUMENT, "a", ["0"] + texts_of(PROGRAM), texts_of(PROGRAM[:3] + PROGRAM[4:])),
        (DOCUMENT, "a", texts_of(PROGRAM) + ["z"], texts_of(PROGRAM))],
    "threeways.settle": [(OTHER_FATES, CLASHES, ["other"])],
    "folding.fold": [(DOCUMENT, "a", ["b"]), (DOCUMENT, "k", ["none"])],
    "folding.view_fates": [
        (DOCUMENT, "a", ["b"], [SAME, behind("w"), SAME, SAME]),
        (DOCUMENT, "a", ["b"], [SAME, ((), DROP, ()), SAME, SAME])],
    "letters.write_letter": [(LETTER,)],
    "letters.read_letter": [("letter ann 3\n" + PATCH,), ("letter ann 3",)],
    "letters.deliver": [],  # It changes the desk; see test_letters.
    "words.is_word": [("a",)],
    "words.words_of": [("a b",)],
    "words.find_word": [(DOCUMENT, "one")],
    "words.word_index": [(DOCUMENT,)],
    "words.rename_word": [(DOCUMENT, "one", "three"), (DOCUMENT, "one", "two")],
    "outline.outline": [(DOCUMENT, "a")],
    "outline.outline_texts": [(DOCUMENT, "a")],
    "outline.sizes": [(DOCUMENT,)],
    "outline.report": [(DOCUMENT, ["a"])],
}


def spoil(value):
    """Change all lists and dicts within a value."""
    if isinstance(value, (list, tuple)):
        for part in value:
            spoil(part)
    if isinstance(value, dict):
        for part in list(value.values()):
            spoil(part)
        value[-7] = "spoilt"
    if isinstance(value, list):
        value.append("spoilt")


class SharedState(WeftTest):
    def test_all_functions_are_tried(self):
        names = [f"{module}.{name}" for module in MODULES for name in MODULES[module]
                 if module != "errors" and name not in CLASSES.get(module, [])]
        self.assertEqual(sorted(CALLS), sorted(names))

    def test_functions_keep_what_they_are_passed_and_share_nothing(self):
        for place, calls in CALLS.items():
            module, name = place.split(".")
            call = getattr(importlib.import_module(f"weft.{module}"), name)
            for arguments in calls:
                self.check(place, call, arguments, {})
        moved = importlib.import_module("weft.patches").moved
        for edits in [EDITS, [((), to("x"), ())] * 6]:
            self.check("patches.moved", moved, (edits, EDITS), {"is_first": True})

    def check(self, place, call, arguments, more):
        with self.subTest(place):
            passed = copy.deepcopy(arguments)
            found = outcome(call, *passed, **more)
            self.assertEqual(passed, arguments)
            before = copy.deepcopy(found)
            # What was passed, or returned, and is changed later has no effect.
            spoil(passed)
            self.assertEqual(found, before)
            spoil(found)
            self.assertEqual(outcome(call, *copy.deepcopy(arguments), **more), before)

    def test_what_the_arguments_of_the_table_do(self):
        raised = 0
        for place, calls in CALLS.items():
            module, name = place.split(".")
            call = getattr(importlib.import_module(f"weft.{module}"), name)
            for at, arguments in enumerate(calls):
                if at == 0:
                    call(*copy.deepcopy(arguments))
                else:
                    try:
                        call(*copy.deepcopy(arguments))
                    except WeftError:
                        raised += 1
        self.assertGreater(raised, 20)


class NothingFromOutside(WeftTest):
    def test_no_file_has_a_way_to_a_clock_a_random_source_or_a_file(self):
        barred = ("open", "print", "input", "eval", "exec", "globals", "vars")
        for path, text, tree in parsed():
            self.assertNotIn("import_module", text, path)
            for word in ["import os", "import sys", "import time", "import random"]:
                self.assertNotIn(word, text, path)
            for node in ast.walk(tree):
                self.assertNotIn(called_name(node), barred, path)
        self.assertFalse((PACKAGE / "__main__.py").exists())


class Accepted(WeftTest):
    """Edits are accepted exactly if a change of the touched lines of the document does them."""

    document = read("= a\n|  <b>\n|<b>\n= b\n|x\n|")
    texts = ["x", "y", "  y", "   y", "", " ", "  ", "<c>", "  <c>", "  x"]

    def some_edits(self):
        found = [SAME, ((), DROP, ())]
        for text in self.texts:
            found.extend([((), to(text), ()), behind(text), ((), DROP, (text,))])
        return found

    def edits_of_fate(self, fate, indentation):
        """Return the edit that a fate of the line of code is, in a place with an indentation."""
        spaces = " " * indentation
        _, change, below = fate
        if change[0] == "text":
            change = to(change[1] and spaces + change[1])
        return ((), change, tuple([text and spaces + text for text in below]))

    def test_each_pair_of_edits(self):
        fates = [fate for fate in self.some_edits()
                 if all([is_code(text) for text in fate[1][1:] + fate[2]])]
        pairs = [(self.plain(self.edits_of_fate(fate, 2), "  x"),
                  self.plain(self.edits_of_fate(fate, 0), "x")) for fate in fates]
        accepted = 0
        for one in self.some_edits():
            for other in self.some_edits():
                edits = [one, SAME, other, SAME]
                found = outcome(program_fates, self.document, "a", edits)
                wanted = (self.plain(one, "  x"), self.plain(other, "x")) in pairs
                self.assertEqual(isinstance(found, dict), wanted, edits)
                if wanted:
                    accepted += 1
                    new = apply(self.document, found)
                    self.assertEqual(texts_of(tangle(new, "a")),
                                     edited(["  x", "", "x", ""], edits))
        self.assertGreater(accepted, 10)

    def plain(self, edit, text):
        """Return an edit with a change that gives the line its text as none."""
        above, change, below = edit
        return (above, KEEP if change == to(text) else change, below)
