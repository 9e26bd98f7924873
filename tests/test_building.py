"""Points 53 and 54: the programs of several roots, and edits of all of them."""

from tests.made import CODE, documents, some_edits
from tests.support import DROP, SAME, WeftTest, ahead, behind, outcome, text_of, to
from weft.building import build, build_fates, roots_of
from weft.errors import Apart, BuildRefused, Missing, NoPiece, Ring, TooLong, Unfit
from weft.fates import edited, untouched
from weft.lines import read, write
from weft.mapping import apply, program_fates
from weft.pieces import piece_names, users_of
from weft.tangling import tangle, texts_of

# The programs are of a: 1 x y, of b: 2 x y 3, and of c: 4.
SHARED = read(text_of(
    "= a",        # 0
    "|1",         # 1
    "|<in>",      # 2
    "= b",        # 3
    "|2",         # 4
    "|  <in>",    # 5
    "|3",         # 6
    "= in",       # 7
    "|x",         # 8
    "|y",         # 9
    "= c",        # 10
    "|4",         # 11
))


class Roots(WeftTest):
    def test_order_is_that_of_the_first_heads(self):
        self.assertEqual(roots_of(SHARED), ["a", "b", "c"])
        self.assertEqual(roots_of(read("= z\n= b\n|<c>\n= a\n= c\n= z\n= b")), ["z", "b", "a"])

    def test_references_from_anywhere_count(self):
        self.assertEqual(roots_of(read("= a\n= b\n|<a>\n|<b>")), [])
        self.assertEqual(roots_of(read("= a\n|<a>\n= b")), ["b"])
        self.assertEqual(roots_of(read("= a\n= b\n= a\n|<b>")), ["a"])

    def test_rings_have_no_roots(self):
        self.assertEqual(roots_of(read("= a\n|<b>\n= b\n|<a>")), [])
        self.assertEqual(roots_of(read("= a\n|<b>\n= b\n|<a>\n= c\n|<a>")), ["c"])

    def test_no_pieces(self):
        self.assertEqual(roots_of(read("")), [])
        self.assertEqual(roots_of(read("p\n\nq")), [])

    def test_unknown_references_are_no_roots(self):
        self.assertEqual(roots_of(read("= a\n|<none>")), ["a"])

    def test_code_that_looks_like_a_reference_is_none(self):
        self.assertEqual(roots_of(read("= a\n|<b> \n= b")), ["a", "b"])

    def test_made_documents(self):
        for _, document in documents(False):
            self.assertEqual(roots_of(document), [
                name for name in piece_names(document) if users_of(document, name) == []])


class Building(WeftTest):
    def test_programs_of_each_root(self):
        self.assertEqual(build(SHARED, ["b", "c", "a"]), [
            [("2", 4, ()), ("  x", 8, (5,)), ("  y", 9, (5,)), ("3", 6, ())],
            [("4", 11, ())],
            [("1", 1, ()), ("x", 8, (2,)), ("y", 9, (2,))],
        ])

    def test_a_root_can_be_needed_by_another_one(self):
        self.assertEqual(build(SHARED, ["in", "a"]), [tangle(SHARED, "in"), tangle(SHARED, "a")])

    def test_no_roots(self):
        self.assertEqual(build(SHARED, []), [])
        self.assertEqual(build(read(""), []), [])

    def test_programs_without_lines(self):
        self.assertEqual(build(read("= a\n= b\n|<a>"), ["a", "b"]), [[], []])

    def test_errors_are_those_of_the_first_root_that_has_one(self):
        document = read(text_of(
            "= good", "|x", "= lost", "|<none>", "= ring", "|<ring>", "= long", *["|x"] * 2001))
        errors = {
            "lost": (Missing, {"line": 3, "name": "none"}),
            "ring": (Ring, {"names": ("ring",)}),
            "long": (TooLong, {}),
            "none": (NoPiece, {"name": "none"}),
        }
        for first in errors:
            for second in errors:
                if first != second:
                    for roots in [[first, second], ["good", first, second]]:
                        self.assert_raises(*errors[first], build, document, roots)
                        self.assert_raises(
                            *errors[first], build_fates, document, roots, [[], [], []])

    def test_roots_stay_and_lists_are_new(self):
        roots = ["a", "b"]
        found = build(SHARED, roots)
        self.assertEqual(roots, ["a", "b"])
        found[0].clear()
        found.clear()
        self.assertEqual(build(SHARED, roots)[0], tangle(SHARED, "a"))


class BuildEdits(WeftTest):
    roots = ["a", "b", "c"]

    def edits(self, **by_place):
        """Return edits of the programs of a, b and c; the keyword b2 has that of b's line 2."""
        found = [untouched(3), untouched(4), untouched(1)]
        for place, edit in by_place.items():
            found["abc".index(place[0])][int(place[1])] = edit
        return found

    def check(self, edits, fates, document=SHARED, roots=None):
        """Check the fates, and that they lead to the edited programs."""
        roots = roots or self.roots
        before = [list(own) for own in edits]
        found = build_fates(document, roots, edits)
        self.assertEqual(found, fates)
        self.assertEqual([list(own) for own in edits], before)
        new = apply(document, found)
        self.assertEqual(read(write(new)), new)
        self.assertEqual(
            [texts_of(program) for program in build(new, roots)],
            [edited(texts_of(program), own)
             for program, own in zip(build(document, roots), edits)])

    def refused(self, told, edits, document=SHARED, roots=None):
        """Check that edits are refused with these values, in the order of the attributes."""
        names = ("root", "at", "what", "other_root", "other")
        self.assert_raises(BuildRefused, dict(zip(names, told)),
                           build_fates, document, roots or self.roots, edits)

    def test_untouched(self):
        self.check(self.edits(), {})
        self.assertEqual(build_fates(SHARED, [], []), {})

    def test_lines_of_one_program_alone(self):
        self.check(self.edits(a0=((), to("5"), ("6",)), b3=((), DROP, ()), c0=ahead("7")),
                   {1: ((), to("5"), ("6",)), 6: ((), DROP, ()), 10: behind("7")})

    def test_programs_that_share_lines_say_the_same(self):
        self.check(self.edits(a1=((), to("z"), ("", " w")), b1=((), to("  z"), ("", "   w"))),
                   {8: ((), to("z"), ("", " w"))})
        self.check(self.edits(a1=ahead("v"), b1=ahead("  v"), a2=((), DROP, ()),
                              b2=((), DROP, ())), {7: behind("v"), 9: ((), DROP, ())})
        self.check(self.edits(a2=((), to("y"), ())), {})

    def test_programs_that_share_lines_do_not_say_the_same(self):
        for edit in [((), to("z"), ()), ((), DROP, ()), ahead("z"), behind("z")]:
            self.refused(("b", 1, "apart", "a", 1), self.edits(a1=edit))
        for edit in [((), to("  z"), ()), ((), DROP, ()), ahead("  z"), behind("  z")]:
            self.refused(("b", 1, "apart", "a", 1), self.edits(b1=edit))
        self.refused(("b", 2, "apart", "a", 2), self.edits(b2=behind("")))
        self.refused(("b", 1, "apart", "a", 1), self.edits(a1=behind("z"), b1=behind("  w")))

    def test_order_of_the_roots_tells_which_occurrence_is_first(self):
        edits = [untouched(4), [SAME, ((), DROP, ()), SAME]]
        self.refused(("a", 1, "apart", "b", 1), edits, roots=["b", "a"])

    def test_apart_within_a_program_and_behind_others(self):
        document = read("= a\n|<in>\n|<in>\n= b\n|p\n|<in>\n= in\n|x")
        drop = ((), DROP, ())
        for edits, told in [
            ([[drop, SAME], [SAME, drop]], ("a", 1, "apart", "a", 0)),
            ([[SAME, drop], [SAME, drop]], ("a", 1, "apart", "a", 0)),
            ([[drop, drop], [SAME, SAME]], ("b", 1, "apart", "a", 0)),
            ([[SAME, SAME], [SAME, drop]], ("b", 1, "apart", "a", 0)),
        ]:
            self.refused(told, edits, document, ["a", "b"])
        self.check([[drop, drop], [SAME, drop]], {7: drop}, document, ["a", "b"])

    def test_a_root_in_another_program(self):
        self.check([[behind("z"), SAME], [SAME, behind("z"), SAME]], {8: behind("z")},
                   roots=["in", "a"])
        self.refused(("a", 1, "apart", "in", 0), [[behind("z"), SAME], untouched(3)],
                     roots=["in", "a"])

    def test_unfit(self):
        for what, edit in [
            ("place", ahead("  1")), ("indent", behind(" 1")), ("blank", behind("  ")),
            ("reference", behind("  <in>")), ("reference", behind("  1\n2")),
        ]:
            self.refused(("b", 2, what, "", -1), self.edits(b2=edit))
        self.refused(("a", 2, "place", "", -1), self.edits(a2=ahead("1")))
        self.refused(("b", 1, "indent", "", -1), self.edits(b1=ahead("1")))
        self.refused(("c", 0, "reference", "", -1), self.edits(c0=((), to("<x>"), ())))

    def test_first_line_of_the_first_program_with_an_error_is_told(self):
        bad = behind("<x>")
        self.refused(("a", 2, "reference", "", -1), self.edits(c0=bad, b0=bad, a2=bad))
        self.refused(("b", 0, "reference", "", -1), self.edits(c0=bad, b3=bad, b0=bad))
        self.refused(("b", 0, "reference", "", -1), self.edits(a1=behind("z"), b0=bad))
        self.refused(("b", 1, "apart", "a", 1), self.edits(a1=behind("z"), b3=bad))
        # Of one line, what is unfit comes before what is apart.
        self.refused(("b", 1, "indent", "", -1), self.edits(a1=behind("z"), b1=behind("z")))

    def test_too_long_for_any_program(self):
        roots = ["a", "b"]
        for root in roots:
            long = {f"{root}0": behind(*["z"] * 3000)}
            edits = self.edits(**long)[:2]
            self.assert_raises(TooLong, {}, build_fates, SHARED, roots, edits)
        # The program of a has 3 lines, that of b has 4.
        more = ["z"] * 1996
        edits = self.edits(a1=behind(*more), b1=behind(*["  z"] * 1996))
        self.check(edits, {8: behind(*more)})
        edits = self.edits(a1=behind(*more, "z"), b1=behind(*["  z"] * 1997))
        self.assert_raises(TooLong, {}, build_fates, SHARED, self.roots, edits)
        self.check([edits[0]], {8: behind(*more, "z")}, roots=["a"])

    def test_too_long_comes_behind_all_else(self):
        self.refused(("c", 0, "reference", "", -1),
                     self.edits(a0=behind(*["z"] * 3000), c0=behind("<x>")))
        self.refused(("b", 1, "apart", "a", 1),
                     self.edits(a0=behind(*["z"] * 3000), a1=behind("z")))

    def test_a_build_of_one_root_is_as_its_program(self):
        for rng, document in documents(True):
            root = rng.choice(piece_names(document))
            edits = some_edits(rng, len(tangle(document, root)), CODE + ["  x", "   "])
            expected = outcome(program_fates, document, root, edits)
            if not isinstance(expected, dict):
                error, attributes = expected
                at = attributes["at"]
                if error is Unfit:
                    told = (root, at, attributes["what"], "", -1)
                else:
                    self.assertIs(error, Apart)
                    told = (root, at, "apart", root, attributes["other"])
                self.refused(told, [edits], document, [root])
            else:
                self.check([edits], expected, document, [root])

    def test_accepted_edits_of_made_documents(self):
        accepted = 0
        for rng, document in documents(True, 1500):
            roots = piece_names(document)
            rng.shuffle(roots)
            programs = build(document, roots)
            line = rng.randrange(len(document))
            edit = some_edits(rng, 1, ["x", "y y", ""])[0]
            edits = [[self.shifted(text, document, program_line, edit)
                      if program_line[1] == line else SAME
                      for text, program_line in zip(texts_of(program), program)]
                     for program in programs]
            fates = outcome(build_fates, document, roots, edits)
            if isinstance(fates, dict):
                accepted += fates != {}
                self.check(edits, fates, document, roots)
            else:
                self.assertEqual(fates[1]["what"], "place")
        self.assertGreater(accepted, 100)

    def shifted(self, text, document, program_line, edit):
        """Return the edit with the indentation of a program line before its texts."""
        spaces = " " * sum([document[at][1] for at in program_line[2]])
        above, change, below = edit
        return (tuple([one and spaces + one for one in above]),
                to(change[1] and spaces + change[1]) if change[0] == "text" else change,
                tuple([one and spaces + one for one in below]))
