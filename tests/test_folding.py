"""Points 61 and 62: views in which some references are not followed, and edits of them."""

from tests.made import CODE, NAMES, documents, some_edits
from tests.support import DROP, SAME, WeftTest, ahead, behind, outcome, text_of, to
from weft.errors import Apart, Missing, NoPiece, Ring, TooLong, Unfit
from weft.fates import edited, is_touched, untouched
from weft.folding import fold, view_fates
from weft.lines import read, write
from weft.mapping import apply, program_fates
from weft.pieces import piece_lines, piece_names
from weft.tangling import indent_of, tangle, texts_of

NESTED = read(text_of(
    "= a",        # 0
    "|1",         # 1
    "|  <b>",     # 2
    "|2",         # 3
    "|<c>",       # 4
    "= b",        # 5
    "| <c>",      # 6
    "|x",         # 7
    "= c",        # 8
    "|y",         # 9
))


def naive_view(document, name, folded, path, active):
    """Put out a view by the words of point 61, piece by piece."""
    found = []
    for at in piece_lines(document, name):
        line = document[at]
        spaces = " " * indent_of(document, path)
        if line[0] == "code":
            found.append((line[1] and spaces + line[1], at, path))
        elif line[2] in folded:
            found.append((spaces + " " * line[1] + "<" + line[2] + ">", at, path))
        elif line[2] not in piece_names(document):
            raise Missing(at, line[2])
        elif line[2] in active:
            raise Ring(tuple(active[active.index(line[2]):]))
        else:
            found.extend(naive_view(document, line[2], folded, path + (at,), active + [line[2]]))
    return found


class Folding(WeftTest):
    def check(self, document, folded, expected, root="a"):
        before = list(folded)
        self.assertEqual(fold(document, root, folded), expected)
        self.assertEqual(folded, before)

    def test_nothing_is_folded(self):
        for root in ["a", "b", "c"]:
            self.check(NESTED, [], tangle(NESTED, root), root)

    def test_a_folded_reference_gives_one_line(self):
        self.check(NESTED, ["b"], [
            ("1", 1, ()), ("  <b>", 2, ()), ("2", 3, ()), ("y", 9, (4,))])
        self.check(NESTED, ["b", "c"], [
            ("1", 1, ()), ("  <b>", 2, ()), ("2", 3, ()), ("<c>", 4, ())])

    def test_the_indentation_of_the_place_is_added(self):
        self.check(NESTED, ["c"], [
            ("1", 1, ()), ("   <c>", 6, (2,)), ("  x", 7, (2,)), ("2", 3, ()), ("<c>", 4, ())])

    def test_folded_names_that_are_not_needed_or_no_pieces(self):
        self.check(NESTED, ["none", "a"], tangle(NESTED, "a"))
        self.check(NESTED, ["a", "c", "c"], [(" <c>", 6, ()), ("x", 7, ())], "b")

    def test_a_folded_piece_needs_not_exist(self):
        document = read("= a\n|x\n|   <none>\n|<b>\n= b\n| <none>")
        self.check(document, ["none"], [
            ("x", 1, ()), ("   <none>", 2, ()), (" <none>", 5, (3,))])

    def test_the_root_is_put_out_also_if_it_is_folded(self):
        self.check(NESTED, ["a"], tangle(NESTED, "a"))
        document = read("= a\n|x\n| <a>\n|<b>\n= b\n|<a>")
        self.check(document, ["a"], [("x", 1, ()), (" <a>", 2, ()), ("<a>", 5, (3,))])
        self.check(document, ["b", "a"], [("x", 1, ()), (" <a>", 2, ()), ("<b>", 3, ())])

    def test_a_folded_reference_within_a_ring(self):
        document = read("= a\n|<b>\n= b\n| <c>\n= c\n|x\n|  <b>")
        self.assert_raises(Ring, {"names": ("b", "c")}, fold, document, "a", [])
        self.check(document, ["c"], [(" <c>", 3, (1,))])
        self.check(document, ["b"], [("<b>", 1, ())])
        self.check(document, ["b"], [("x", 5, ()), ("  <b>", 6, ())], "c")
        self.check(document, ["b"], [(" x", 5, (3,)), ("   <b>", 6, (3,))], "b")

    def test_errors_for_all_other_references(self):
        document = read("= a\n|<b>\n|<none>\n= b\n|<c>\n|<other>\n= c\n|<b>")
        for folded, error, attributes in [
            ([], Ring, {"names": ("b", "c")}),
            (["none"], Ring, {"names": ("b", "c")}),
            (["c"], Missing, {"line": 5, "name": "other"}),
            (["c", "other"], Missing, {"line": 2, "name": "none"}),
            (["b"], Missing, {"line": 2, "name": "none"}),
        ]:
            self.assert_raises(error, attributes, fold, document, "a", folded)
            self.assert_raises(error, attributes, view_fates, document, "a", folded, [])
        self.assert_raises(NoPiece, {"name": "none"}, fold, document, "none", ["none"])
        self.assert_raises(NoPiece, {"name": "none"}, view_fates, document, "none", ["none"], [])

    def test_2000_lines(self):
        document = read(text_of("= a", "|<b>", *["|x"] * 1999, "= b", "|y", "|z"))
        self.assert_raises(TooLong, {}, fold, document, "a", [])
        self.assertEqual(len(fold(document, "a", ["b"])), 2000)
        document = read(text_of("= a", *["|<b>"] * 2001, "= b"))
        self.assert_raises(TooLong, {}, fold, document, "a", ["b"])
        self.assert_raises(TooLong, {}, view_fates, document, "a", ["b"], [behind("\n")] * 2001)
        self.assertEqual(fold(document, "a", []), [])

    def test_empty_lines_and_spaces_of_code_stay(self):
        document = read("= a\n|  <b>\n= b\n|\n| \n|<c>")
        self.check(document, ["c"], [("", 3, (1,)), ("   ", 4, (1,)), ("  <c>", 5, (1,))])

    def test_made_documents(self):
        for rng, document in documents(False):
            root = rng.choice(piece_names(document))
            folded = [name for name in NAMES + ["e"] if rng.random() < 0.4]
            expected = outcome(naive_view, document, root, folded, (), [root])
            self.assertEqual(outcome(fold, document, root, folded), expected)


class ViewEdits(WeftTest):
    folded = ["c"]
    # The view is 1, three spaces and <c>, two spaces and x, 2, <c>.

    def edits(self, **by_place):
        """Return edits of the view; the keyword at2 has that of the line 2."""
        found = untouched(5)
        for place, edit in by_place.items():
            found[int(place[2:])] = edit
        return found

    def check(self, edits, fates, document=NESTED, folded=("c",), root="a"):
        """Check the fates, and that they lead to the edited view."""
        folded = list(folded)
        before = list(edits)
        found = view_fates(document, root, folded, edits)
        self.assertEqual(found, fates)
        self.assertEqual(edits, before)
        new = apply(document, found)
        self.assertEqual(read(write(new)), new)
        self.assertEqual(texts_of(fold(new, root, folded)),
                         edited(texts_of(fold(document, root, folded)), edits))

    def refused(self, error, attributes, edits, document=NESTED, folded=("c",), root="a"):
        self.assert_raises(error, attributes, view_fates, document, root, list(folded), edits)

    def test_untouched(self):
        self.check(untouched(5), {})

    def test_lines_of_code(self):
        self.check(self.edits(at0=((), to("4"), ("5",)), at2=((), to("  z"), ("", "   w"))),
                   {1: ((), to("4"), ("5",)), 7: ((), to("z"), ("", " w"))})
        self.check(self.edits(at3=((), DROP, ()), at2=((), to("  x"), ())), {3: ((), DROP, ())})

    def test_texts_behind_references(self):
        self.check(self.edits(at1=behind("  z", "", "   w"), at4=behind("v")),
                   {6: behind("z", "", " w"), 4: behind("v")})

    def test_texts_ahead_of_a_first_line_that_is_a_reference(self):
        self.check(self.edits(at1=ahead("  z", "")), {5: behind("z", "")})
        self.check(self.edits(at1=(("  z",), ("keep",), ("  w",))),
                   {5: behind("z"), 6: behind("w")})
        document = read("= a\n|   <b>\n|x\n\n= a\n|<b>")
        self.check([ahead("1"), SAME, ahead("2")], {0: behind("1"), 4: behind("2")},
                   document, ["b"])

    def test_place(self):
        for at in [2, 3, 4]:
            edits = untouched(5)
            edits[at] = ahead("  z")
            self.refused(Unfit, {"at": at, "what": "place"}, edits)

    def test_references_are_fixed(self):
        for at in [1, 4]:
            for change in [("drop",), to("  z"), to("   <c>"), to("<c>"), to("<d>"), to("")]:
                edits = untouched(5)
                edits[at] = ((), change, ())
                self.refused(Unfit, {"at": at, "what": "fixed"}, edits)

    def test_fixed_comes_behind_place_and_before_the_texts(self):
        for text in ["w", "  ", "  <x>", "\n"]:
            self.refused(Unfit, {"at": 4, "what": "place"},
                         self.edits(at4=((text,), DROP, (text,))))
            self.refused(Unfit, {"at": 1, "what": "fixed"},
                         self.edits(at1=((text,), DROP, (text,))))
            self.refused(Unfit, {"at": 1, "what": "fixed"},
                         self.edits(at1=((), to(text), (text,))))

    def test_texts_at_references(self):
        for what, text in [
            ("indent", " z"), ("indent", "<c>"), ("blank", "  "), ("reference", "  <x>"),
            ("reference", "   <c>"), ("reference", "  z\n"),
        ]:
            self.refused(Unfit, {"at": 1, "what": what}, self.edits(at1=behind("  y", text)))
            self.refused(Unfit, {"at": 1, "what": what}, self.edits(at1=ahead(text)))
        self.check(self.edits(at1=behind("   ")), {6: behind(" ")})

    def test_the_indentation_of_a_place_is_without_the_own_indent(self):
        document = read("= a\n|     <b>")
        self.check([(("x",), ("keep",), ("y", " "))], {0: behind("x"), 1: behind("y", " ")},
                   document, ["b"])

    def test_first_error_is_told(self):
        self.refused(Unfit, {"at": 0, "what": "reference"},
                     self.edits(at0=behind("<x>"), at1=((), DROP, ())))
        self.refused(Unfit, {"at": 1, "what": "fixed"},
                     self.edits(at1=((), DROP, ()), at2=behind("z")))

    def test_a_folded_reference_that_comes_out_several_times(self):
        document = read("= a\n|<b>\n|  <b>\n= b\n|<c>\n|x\n= c")
        self.check([behind("z"), SAME, behind("  z"), SAME], {4: behind("z")}, document)
        self.check([ahead("z"), SAME, ahead("  z"), SAME], {3: behind("z")}, document)
        for edits in [
            [behind("z"), SAME, SAME, SAME], [SAME, SAME, behind("  z"), SAME],
            [behind("z"), SAME, behind("   z"), SAME], [ahead("z"), SAME, SAME, SAME],
        ]:
            self.refused(Apart, {"at": 2, "other": 0}, edits, document)
        self.refused(Unfit, {"at": 2, "what": "fixed"},
                     [behind("z"), SAME, ((), DROP, ()), SAME], document)
        self.refused(Apart, {"at": 3, "other": 1}, [SAME, behind("z"), SAME, SAME], document)

    def test_unlike_references_to_one_folded_piece(self):
        document = read("= a\n|<b>\n|<b>\n= b\n|x")
        self.check([behind("1"), behind("2")], {1: behind("1"), 2: behind("2")}, document, ["b"])

    def test_a_folded_piece_stays(self):
        document = read("= a\n|<b>\n|x\n= b\n|<b>\n|<none>")
        self.check([behind("y"), ((), DROP, ())], {1: behind("y"), 2: ((), DROP, ())},
                   document, ["b"])

    def test_too_long_for_the_edited_view(self):
        document = read(text_of("= a", "|<b>", *["|x"] * 999, "= b", *["|y"] * 1500))
        self.refused(TooLong, {}, [behind("z")] * 999 + [behind("z", "z")], document, ["b"])
        self.refused(TooLong, {}, [ahead(*["z"] * 1001)] + untouched(999), document, ["b"])
        self.check([behind("z")] * 1000, {at: behind("z") for at in range(1, 1001)},
                   document, ["b"])
        long = behind(*["z"] * 3000)
        self.refused(Unfit, {"at": 1, "what": "reference"},
                     [long, behind("<b>")] + untouched(998), document, ["b"])
        document = read("= a\n|<c>\n|<b>\n|<b>\n= b\n|<c>")
        self.refused(Apart, {"at": 2, "other": 1}, [long, long, SAME], document)
        self.refused(TooLong, {}, [long, SAME, SAME], document)

    def test_no_folded_names_are_as_edits_of_the_program(self):
        for rng, document in documents(True, 150):
            root = rng.choice(piece_names(document))
            edits = some_edits(rng, len(tangle(document, root)), CODE + ["  x"])
            self.assertEqual(outcome(view_fates, document, root, [], edits),
                             outcome(program_fates, document, root, edits))

    def test_made_documents(self):
        accepted = 0
        for rng, document in documents(False, 1500):
            root = rng.choice(piece_names(document))
            folded = [name for name in NAMES + ["e"] if rng.random() < 0.6]
            view = outcome(fold, document, root, folded)
            if not isinstance(view, list) or view == []:
                continue
            edits = untouched(len(view))
            at = rng.randrange(len(view))
            spaces = " " * indent_of(document, view[at][2])
            edits[at] = some_edits(rng, 1, [spaces + "x", "", spaces + " y y"])[0]
            fates = outcome(view_fates, document, root, folded, edits)
            if isinstance(fates, dict):
                accepted += is_touched(edits[at])
                self.check(edits, fates, document, folded, root)
        self.assertGreater(accepted, 100)
