"""Points 17 to 22: edits of programs and of woven texts, and what they do to documents."""

from tests.support import WeftTest, text_of
from weft.errors import Apart, MadeLine, Missing, NoPiece, Ring, TooLong, Unfit
from weft.fates import edited, untouched
from weft.lines import read, write
from weft.mapping import apply, program_fates, woven_fates
from weft.tangling import tangle, texts_of
from weft.weaving import weave

KEEP = ("keep",)
DROP = ("drop",)
SAME = ((), KEEP, ())


def to(text):
    return ("text", text)


def behind(*texts):
    return ((), KEEP, texts)


def ahead(*texts):
    return (texts, KEEP, ())


class Applying(WeftTest):
    document = read(text_of(
        "p",          # 0
        "= a",        # 1
        "|x",         # 2
        "|  <b>",     # 3
        "|",          # 4
        "",           # 5
        "= b",        # 6
    ))

    def check(self, fates, *lines):
        before = dict(fates)
        found = apply(self.document, fates)
        self.assertEqual(write(found), text_of(*lines))
        self.assertIs(type(found), tuple)
        self.assertEqual(read(write(found)), found)
        self.assertEqual(fates, before)

    def test_no_fates(self):
        self.check({}, "p", "= a", "|x", "|  <b>", "|", "", "= b")
        self.assertEqual(apply(self.document, {}), self.document)

    def test_drops(self):
        self.check({0: ((), DROP, ())}, "= a", "|x", "|  <b>", "|", "", "= b")
        self.check({2: ((), DROP, ())}, "p", "= a", "|  <b>", "|", "", "= b")
        self.check({2: ((), DROP, ()), 4: ((), DROP, ()), 5: ((), DROP, ())},
                   "p", "= a", "|  <b>", "= b")

    def test_other_texts(self):
        self.check({0: ((), to("q"), ()), 2: ((), to(" y"), ()), 4: ((), to("z"), ())},
                   "q", "= a", "| y", "|  <b>", "|z", "", "= b")
        self.check({2: ((), to(""), ()), 5: ((), to("r"), ())},
                   "p", "= a", "|", "|  <b>", "|", "r", "= b")

    def test_texts_behind(self):
        self.check({0: behind("q", ""), 2: behind("y", "")},
                   "p", "q", "", "= a", "|x", "|y", "|", "|  <b>", "|", "", "= b")
        self.check({1: behind("y"), 3: behind("z", " w"), 6: behind("")},
                   "p", "= a", "|y", "|x", "|  <b>", "|z", "| w", "|", "", "= b", "|")

    def test_texts_behind_changed_and_dropped_lines(self):
        self.check({0: ((), DROP, ("q", "r")), 2: ((), DROP, ("y", "z"))},
                   "q", "r", "= a", "|y", "|z", "|  <b>", "|", "", "= b")
        self.check({5: ((), to("q"), ("r",)), 4: ((), to("y"), ("z", ""))},
                   "p", "= a", "|x", "|  <b>", "|y", "|z", "|", "q", "r", "= b")

    def test_kinds(self):
        self.assertEqual(
            apply(self.document, {0: behind("t"), 1: behind("t"), 2: behind("t"), 3: behind("t")}),
            (("prose", "p"), ("prose", "t"), ("head", "a"), ("code", "t"), ("code", "x"),
             ("code", "t"), ("use", 2, "b"), ("code", "t"), ("code", ""), ("prose", ""),
             ("head", "b")),
        )
        self.assertEqual(
            apply(self.document, {0: ((), to("t"), ()), 2: ((), to("t"), ())})[:3],
            (("prose", "t"), ("head", "a"), ("code", "t")),
        )


class ProgramEdits(WeftTest):
    def check(self, document, edits, fates, root="a"):
        """Check the fates, and that they lead to the edited texts."""
        before = list(edits)
        found = program_fates(document, root, edits)
        self.assertEqual(found, fates)
        self.assertEqual(edits, before)
        new = apply(document, found)
        self.assertEqual(
            texts_of(tangle(new, root)), edited(texts_of(tangle(document, root)), edits))
        self.assertEqual(read(write(new)), new)

    def refused(self, error, attributes, document, edits, root="a"):
        self.assert_raises(error, attributes, program_fates, document, root, edits)


class AcceptedProgramEdits(ProgramEdits):
    twice = read("= a\n|  <b>\n|  <b>\n= b\n|x\n|")

    def test_example(self):
        document = read("= all\n|  <x>\n|  <x>\n= x\n|a")
        edit = ((), to("  b"), ("  c",))
        self.check(document, [edit, edit], {4: ((), to("b"), ("c",))}, "all")
        self.refused(Apart, {"at": 1, "other": 0}, document, [edit, SAME], "all")

    def test_untouched_edits_have_no_fates(self):
        self.check(self.twice, untouched(4), {})
        self.check(read("= a"), [], {})
        self.check(read("= a\n|<b>\n= b"), [], {})

    def test_changes(self):
        document = read("= a\n|x\n|y\n|\n|z")
        self.check(document, [((), DROP, ()), SAME, ((), to("w"), ()), ((), to(""), ())],
                   {1: ((), DROP, ()), 3: ((), to("w"), ()), 4: ((), to(""), ())})
        self.check(document, [((), DROP, ())] * 4, {at: ((), DROP, ()) for at in range(1, 5)})

    def test_texts_behind(self):
        document = read("= a\n|x\n|y")
        self.check(document, [behind("1", ""), ((), DROP, ("2", " 3"))],
                   {1: behind("1", ""), 2: ((), DROP, ("2", " 3"))})

    def test_texts_ahead_of_a_first_line_stand_in_the_fate_of_the_head(self):
        document = read("p\n= a\n|x\n|y")
        self.check(document, [ahead("1", "", "2"), SAME], {1: behind("1", "", "2")})
        self.check(document, [(("1",), to("z"), ("3",)), SAME],
                   {1: behind("1"), 2: ((), to("z"), ("3",))})
        self.check(document, [(("1",), DROP, ()), SAME], {1: behind("1"), 2: ((), DROP, ())})

    def test_texts_ahead_of_the_first_lines_of_several_sections(self):
        document = read("= a\n|x\n\n= a\n|y\n|<b>\n= b\n|z")
        self.check(document, [ahead("1"), ahead("2"), ahead("3")],
                   {0: behind("1"), 3: behind("2"), 6: behind("3")})

    def test_indentation_is_taken_away(self):
        document = read("= a\n| <b>\n= b\n|  <c>\n= c\n|x\n|")
        self.check(document, [(("   1", "    2"), to("   3"), ("", "     4")), SAME],
                   {4: behind("1", " 2"), 5: ((), to("3"), ("", "  4"))})
        self.check(document, [SAME, ((), to("   y"), ())], {6: ((), to("y"), ())})
        self.check(document, [((), to(""), ()), SAME], {5: ((), to(""), ())})

    def test_line_of_spaces_where_there_is_no_indentation(self):
        self.check(read("= a\n|x"), [((" ",), to("  "), ("   ",))],
                   {0: behind(" "), 1: ((), to("  "), ("   ",))})

    def test_more_spaces_than_the_indentation(self):
        edit = ((), to("   "), ("     ",))
        self.check(self.twice, [edit, SAME, edit, SAME], {4: ((), to(" "), ("   ",))})

    def test_texts_of_all_kinds_that_can_be_code(self):
        document = read("= a\n| <b>\n= b\n|x")
        for text in ["= a", "|", "<b", "<>", "x <b>", "<b> ", "[1] a", "    (used in 1)"]:
            self.check(document, [((), KEEP, (" " + text,))], {3: behind(text)})

    def test_all_occurrences_say_the_same(self):
        edit = ((), DROP, ("  y", ""))
        self.check(self.twice, [edit, SAME, edit, SAME], {4: ((), DROP, ("y", ""))})
        self.check(self.twice, [ahead("  y"), SAME, ahead("  y"), SAME], {3: behind("y")})

    def test_all_occurrences_say_the_same_behind_unlike_indentations(self):
        document = read("= a\n|<b>\n|   <b>\n= b\n|x\n|")
        self.check(
            document,
            [(("1", ""), to("y"), ("2",)), ((), to("z"), ()),
             (("   1", ""), to("   y"), ("   2",)), ((), to("   z"), ())],
            {3: behind("1", ""), 4: ((), to("y"), ("2",)), 5: ((), to("z"), ())},
        )

    def test_change_to_the_own_text_counts_as_keep(self):
        document = read("= a\n|x\n|\n|  <b>\n= b\n|y\n|")
        self.check(document, [((), to("x"), ()), ((), to(""), ()), ((), to("  y"), ()),
                              ((), to(""), ())], {})
        self.check(document, [((), to("x"), ("1",)), SAME, (("  2",), to("  y"), ()), SAME],
                   {1: behind("1"), 4: behind("2")})

    def test_change_to_the_own_text_says_the_same_as_keep(self):
        self.check(self.twice, [((), to("  x"), ()), SAME, SAME, ((), to(""), ())], {})
        self.check(self.twice, [((), to("  x"), ("  y",)), SAME, behind("  y"), SAME],
                   {4: behind("y")})

    def test_a_change_to_another_text_with_the_same_end_is_one(self):
        self.check(read("= a\n| x"), [((), to("x"), ())], {1: ((), to("x"), ())})
        self.check(read("= a\n|x"), [((), to(" x"), ())], {1: ((), to(" x"), ())})

    def test_lines_that_the_root_does_not_need_stay(self):
        document = read("= z\n|x\n|<a>\n= a\n|x")
        self.check(document, [((), to("y"), ())], {4: ((), to("y"), ())})

    def test_2000_lines_are_no_error(self):
        document = read(text_of("= a", *["|x"] * 1000))
        self.check(document, [behind("y")] * 1000, {at: behind("y") for at in range(1, 1001)})
        edits = [behind(*["y"] * 1999)] + [((), DROP, ())] * 999
        self.assertEqual(len(program_fates(document, "a", edits)), 1000)


class RefusedProgramEdits(ProgramEdits):
    def test_errors_of_tangle_come_first(self):
        self.refused(NoPiece, {"name": "b"}, read("= a\n|x"), [ahead("\n")], "b")
        self.refused(Missing, {"line": 2, "name": "b"}, read("= a\n|x\n|<b>"), [behind("\n")])
        self.refused(Ring, {"names": ("a",)}, read("= a\n|x\n|<a>"), [behind("\n")])
        document = read(text_of("= a", *["|x"] * 2001))
        self.refused(TooLong, {}, document, [behind("\n")] + untouched(2000))

    def test_place(self):
        document = read("= a\n|x\n|y\n|<b>\n|z\n= b\n|v\n|w\n\n= b\n|u")
        for at in [1, 3, 5]:
            edits = untouched(6)
            edits[at] = ahead("1")
            self.refused(Unfit, {"at": at, "what": "place"}, document, edits)
        for at, head in [(0, 0), (2, 5), (4, 9)]:
            edits = untouched(6)
            edits[at] = ahead("1")
            self.check(document, edits, {head: behind("1")})

    def test_place_behind_a_reference_as_first_line(self):
        document = read("= a\n|<b>\n|x\n= b")
        self.refused(Unfit, {"at": 0, "what": "place"}, document, [ahead("1")])

    def test_indent(self):
        document = read("= a\n|  <b>\n= b\n|x\n|")
        for text in ["y", " y", " ", "\n", " \n"]:
            for edit in [ahead(text), ((), to(text), ()), behind(text), behind("  v", text)]:
                self.refused(Unfit, {"at": 0, "what": "indent"}, document, [edit, SAME])
        self.refused(Unfit, {"at": 1, "what": "indent"}, document, [SAME, ((), to("y"), ())])
        self.refused(Unfit, {"at": 1, "what": "indent"}, document, [SAME, behind(" y")])

    def test_indent_is_the_sum_of_those_on_the_path(self):
        document = read("= a\n| <b>\n= b\n|  <c>\n= c\n|x")
        self.refused(Unfit, {"at": 0, "what": "indent"}, document, [behind("  y")])
        self.check(document, [behind("   y")], {5: behind("y")})

    def test_blank(self):
        document = read("= a\n|  <b>\n= b\n|x\n|")
        for edit in [ahead("  "), ((), to("  "), ()), behind("  "), behind("", "  ")]:
            self.refused(Unfit, {"at": 0, "what": "blank"}, document, [edit, SAME])
        self.refused(Unfit, {"at": 1, "what": "blank"}, document, [SAME, ((), to("  "), ())])

    def test_reference(self):
        document = read("= a\n|x\n|  <b>\n= b\n|y")
        for text in ["<b>", "  <b>", "<c>", "x\ny", "\n", "x\n", "\n<b>"]:
            for edit in [ahead(text), ((), to(text), ()), behind(text), behind("v", text)]:
                self.refused(Unfit, {"at": 0, "what": "reference"}, document, [edit, SAME])
        for text in ["  <b>", "   <b>", "  \n", "  x\ny", "  x\n"]:
            self.refused(Unfit, {"at": 1, "what": "reference"}, document, [SAME, behind(text)])

    def test_apart(self):
        document = read("= a\n|<b>\n|x\n|<b>\n|<b>\n= b\n|y\n|z")
        # The program is y z x y z y z.
        for edit in [((), DROP, ()), ((), to("w"), ()), ahead("w"), behind("w"), behind("")]:
            for at, found in [(0, 3), (3, 3), (5, 5)]:
                edits = untouched(7)
                edits[at] = edit
                self.refused(Apart, {"at": found, "other": 0}, document, edits)
        edits = untouched(7)
        edits[4] = edits[6] = behind("w")
        self.refused(Apart, {"at": 4, "other": 1}, document, edits)

    def test_apart_in_ahead_alone_and_in_behind_alone(self):
        document = read("= a\n|<b>\n|<b>\n= b\n|y")
        for one, other in [
            ((("1",), to("w"), ("2",)), ((), to("w"), ("2",))),
            ((("1",), to("w"), ("2",)), (("1",), to("v"), ("2",))),
            ((("1",), to("w"), ("2",)), (("1",), to("w"), ("2", ""))),
            ((("1",), KEEP, ()), (("2",), KEEP, ())),
            (((), DROP, ()), ((), to(""), ())),
            (((), DROP, ("y",)), SAME),
        ]:
            self.refused(Apart, {"at": 1, "other": 0}, document, [one, other])
            self.refused(Apart, {"at": 1, "other": 0}, document, [other, one])

    def test_apart_where_texts_are_alike_but_the_indentation_is_not(self):
        document = read("= a\n|<b>\n|  <b>\n= b\n|y")
        edit = behind("  z")
        self.refused(Apart, {"at": 1, "other": 0}, document, [edit, edit])

    def test_first_program_line_with_an_error_is_told(self):
        document = read("= a\n|x\n|y\n|  <b>\n|  <b>\n= b\n|z")
        bad = [
            (ahead("1"), {"at": 1, "what": "place"}),
            (behind("<b>"), {"at": 1, "what": "reference"}),
        ]
        for edit, attributes in bad:
            self.refused(Unfit, attributes, document, [SAME, edit, behind(" "), behind("\n")])
        self.refused(Apart, {"at": 3, "other": 2}, document, [SAME, SAME, SAME, behind("  1")])
        self.refused(Unfit, {"at": 2, "what": "blank"}, document,
                     [SAME, SAME, behind("  "), behind("  1")])

    def test_order_of_the_errors_of_one_program_line(self):
        document = read("= a\n|  <b>\n|  <b>\n= b\n|x\n|y")
        texts = {"indent": "w", "blank": "  ", "reference": "  <b>"}
        for what, text in texts.items():
            for other in texts.values():
                # A place comes before all texts.
                self.refused(Unfit, {"at": 1, "what": "place"}, document,
                             [SAME, ((text,), to(other), ()), SAME, SAME])
                # The texts ahead come before the other text, this before the texts behind.
                for edit in [
                    ((text, other), KEEP, ()), ((text,), to(other), ()), ((text,), DROP, (other,)),
                    ((), to(text), (other,)), ((), KEEP, (text, other)),
                    (("  v",), to(text), (other,)), (("  v", text), to("  v"), (other,)),
                ]:
                    self.refused(Unfit, {"at": 0, "what": what}, document,
                                 [edit, SAME, SAME, SAME])
            # An edit that is unfit is told before it is found to be apart.
            self.refused(Unfit, {"at": 2, "what": what}, document,
                         [SAME, SAME, behind(text), SAME])
            self.refused(Unfit, {"at": 3, "what": what}, document,
                         [SAME, SAME, SAME, behind(text)])
        self.refused(Unfit, {"at": 3, "what": "place"}, document, [SAME, SAME, SAME, ahead("  v")])

    def test_too_long(self):
        document = read(text_of("= a", *["|x"] * 1000))
        for edits in [
            [behind("y")] * 999 + [behind("y", "y")],
            [(("y",), KEEP, ("y",))] + [behind("y")] * 999,
            [behind(*["y"] * 2001)] + [((), DROP, ())] * 999,
            [ahead(*["y"] * 1001)] + [SAME] * 999,
        ]:
            self.refused(TooLong, {}, document, edits)

    def test_too_long_comes_last(self):
        document = read("= a\n|<b>\n|<b>\n= b\n|x")
        long = behind(*["y"] * 3000)
        self.refused(Apart, {"at": 1, "other": 0}, document, [long, SAME])
        self.refused(Unfit, {"at": 1, "what": "reference"}, document, [long, behind("<b>")])
        self.refused(TooLong, {}, document, [long, long])

    def test_lines_of_all_occurrences_count(self):
        document = read("= a\n|<b>\n|<b>\n= b\n|x")
        self.check(document, [behind(*["y"] * 999)] * 2, {4: behind(*["y"] * 999)})
        self.refused(TooLong, {}, document, [behind(*["y"] * 1000)] * 2)


class WovenEdits(WeftTest):
    document = read(text_of(
        "p",          # 0
        "= a",        # 1
        "|x",         # 2
        "|  <b>",     # 3
        "|",          # 4
        "",           # 5
        "= b",        # 6
    ))
    # The woven text is p, [1] a, x, <b 2>, an empty line, an empty line, [2] b, used in 1,
    # an empty line, a: 1, b: 2.
    made = [7, 8, 9, 10]

    def edits(self, **by_place):
        """Return edits of the woven text; the keyword at4 has that of the line 4."""
        found = untouched(11)
        for place, edit in by_place.items():
            found[int(place[2:])] = edit
        return found

    def check(self, edits, fates, document=None):
        """Check the fates, and that the document has just the edited texts as woven text."""
        document = document or self.document
        before = list(edits)
        found = woven_fates(document, edits)
        self.assertEqual(found, fates)
        self.assertEqual(edits, before)
        new = apply(document, found)
        self.assertEqual(texts_of(weave(new)), edited(texts_of(weave(document)), edits))
        self.assertEqual(read(write(new)), new)

    def refused(self, error, attributes, edits, document=None):
        self.assert_raises(error, attributes, woven_fates, document or self.document, edits)


class AcceptedWovenEdits(WovenEdits):
    def test_untouched_edits_have_no_fates(self):
        self.check(untouched(11), {})
        self.check(untouched(1), {}, read(""))

    def test_prose(self):
        self.check(self.edits(at0=((), to("q"), ("", " r"))), {0: ((), to("q"), ("", " r"))})
        self.check(self.edits(at0=((), DROP, ())), {0: ((), DROP, ())})
        self.check(self.edits(at5=((), to("    s"), ("    ", "<b>"))),
                   {5: ((), to("    s"), ("    ", "<b>"))})
        self.check(self.edits(at5=((), DROP, ("1", "2"))), {5: ((), DROP, ("1", "2"))})
        self.check(self.edits(at0=((), to(""), ())), {0: ((), to(""), ())})

    def test_code(self):
        self.check(self.edits(at2=((), to("    y"), ("      z", ""))),
                   {2: ((), to("y"), ("  z", ""))})
        self.check(self.edits(at2=((), DROP, ("     ",)), at4=((), to("    = a"), ())),
                   {2: ((), DROP, (" ",)), 4: ((), to("= a"), ())})
        self.check(self.edits(at2=((), to(""), ())), {2: ((), to(""), ())})
        self.check(self.edits(at4=((), DROP, ())), {4: ((), DROP, ())})

    def test_texts_behind_heads_and_references(self):
        self.check(self.edits(at1=behind("    y", ""), at3=behind("    z"), at6=behind("")),
                   {1: behind("y", ""), 3: behind("z"), 6: behind("")})

    def test_change_to_the_own_text_counts_as_keep(self):
        self.check(self.edits(at0=((), to("p"), ()), at2=((), to("    x"), ()),
                              at4=((), to(""), ()), at5=((), to(""), ())), {})
        self.check(self.edits(at0=((), to("p"), ("q",)), at2=((), to("    x"), ("    y",))),
                   {0: behind("q"), 2: behind("y")})

    def test_a_text_of_prose_keeps_its_spaces(self):
        document = read("    p")
        self.check([((), to("p"), ())], {0: ((), to("p"), ())}, document)
        self.check([((), to("    p"), ("    q",))], {0: behind("    q")}, document)

    def test_lines_that_no_root_needs(self):
        document = read("= a\n|<a>\n|<none>\n|x")
        self.check([SAME, SAME, SAME, ((), to("    y"), ()), SAME, SAME, SAME],
                   {3: ((), to("y"), ())}, document)

    def test_no_limit_of_lines(self):
        self.check([behind(*["    y"] * 3000), SAME, SAME], {0: behind(*["y"] * 3000)}, read("= a"))

    def test_a_line_that_is_left(self):
        document = read("p\nq")
        self.check([((), DROP, ()), SAME], {0: ((), DROP, ())}, document)
        self.check([((), DROP, ()), ((), to(""), ())], {0: ((), DROP, ()), 1: ((), to(""), ())},
                   document)
        self.check([((), DROP, ("",)), ((), DROP, ())], {0: ((), DROP, ("",)), 1: ((), DROP, ())},
                   document)
        self.check([((), DROP, ()), SAME, SAME, SAME], {0: ((), DROP, ())}, read("p\n= a"))


class RefusedWovenEdits(WovenEdits):
    def test_made_lines(self):
        for at in self.made:
            text = weave(self.document)[at][0]
            for edit in [((), DROP, ()), ((), to("x"), ()), ahead(""), behind("    x"),
                         ((), to(text), ()), (("\n",), to("\n"), ("\n",))]:
                edits = untouched(11)
                edits[at] = edit
                self.refused(MadeLine, {"at": at}, edits)

    def test_place(self):
        for at in range(7):
            for edit in [ahead(""), (("    y",), DROP, ()), (("\n",), to("\n"), ("\n",))]:
                edits = untouched(11)
                edits[at] = edit
                self.refused(Unfit, {"at": at, "what": "place"}, edits)

    def test_fixed(self):
        for at in [1, 3, 6]:
            text = weave(self.document)[at][0]
            for change in [DROP, to("    x"), to(""), to(text)]:
                for texts in [(), ("    y",), ("\n",)]:
                    edits = untouched(11)
                    edits[at] = ((), change, texts)
                    self.refused(Unfit, {"at": at, "what": "fixed"}, edits)

    def test_kind_at_prose(self):
        for at in [0, 5]:
            for text in ["=", "= c", "|", "|x", "a\nb", "\n"]:
                for edit in [((), to(text), ()), behind(text), ((), DROP, ("q", text))]:
                    edits = untouched(11)
                    edits[at] = edit
                    self.refused(Unfit, {"at": at, "what": "kind"}, edits)

    def check_code_texts(self, what, texts):
        """Check that each text is refused as this behind a line, and as that of a line of code."""
        for text in texts:
            for at in [1, 2, 3, 4, 6]:
                for edit in [behind(text), behind("    y", text)]:
                    edits = untouched(11)
                    edits[at] = edit
                    self.refused(Unfit, {"at": at, "what": what}, edits)
            for at in [2, 4]:
                for edit in [((), to(text), ()), ((), to(text), ("    y",)), ((), DROP, (text,))]:
                    edits = untouched(11)
                    edits[at] = edit
                    self.refused(Unfit, {"at": at, "what": what}, edits)

    def test_kind_at_other_lines(self):
        self.check_code_texts("kind", ["y", "   y", " ", "   ", "\n", "   \n", "<b>", "|x"])

    def test_blank(self):
        self.check_code_texts("blank", ["    "])

    def test_reference(self):
        self.check_code_texts("reference", [
            "    <b>", "      <b>", "    <none>", "    \n", "    y\n", "    y\nz",
        ])

    def test_texts_are_examined_in_order(self):
        texts = {"kind": "y", "blank": "    ", "reference": "    <b>"}
        for what, text in texts.items():
            for other in texts.values():
                for edit in [((), to(text), (other,)), ((), KEEP, (text, other)),
                             ((), to("    z"), (text, other)), ((), DROP, ("", text, other))]:
                    self.refused(Unfit, {"at": 2, "what": what}, self.edits(at2=edit))

    def test_first_line_with_an_error_is_told(self):
        bad = {
            0: (behind("="), "kind"), 1: (ahead(""), "place"), 2: (behind("    "), "blank"),
            3: (((), DROP, ()), "fixed"), 4: (behind("    <b>"), "reference"),
        }
        for at in range(5):
            edits = untouched(11)
            for later in range(at, 5):
                edits[later] = bad[later][0]
            edits[7] = ((), DROP, ())
            self.refused(Unfit, {"at": at, "what": bad[at][1]}, edits)
        edits = self.edits(at6=SAME, at7=((), DROP, ()), at8=behind(""))
        self.refused(MadeLine, {"at": 7}, edits)

    def test_empty(self):
        drop = ((), DROP, ())
        self.refused(Unfit, {"at": 0, "what": "empty"}, [drop], read(""))
        self.refused(Unfit, {"at": 0, "what": "empty"}, [drop, drop], read("p\nq"))
        self.refused(Unfit, {"at": 1, "what": "place"}, [drop, (("",), DROP, ())], read("p\nq"))
        self.refused(Unfit, {"at": 1, "what": "kind"}, [drop, ((), DROP, ("|",))], read("p\nq"))
