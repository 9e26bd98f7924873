"""Points 14 and 15: woven texts."""

from tests.support import WeftTest, text_of
from weft.lines import read
from weft.weaving import weave


def woven(*lines):
    return weave(read(text_of(*lines)))


def texts(*lines):
    return [text for text, _ in woven(*lines)]


def made(*lines):
    return [text for text, line in woven(*lines) if line is None]


class LinesOfTheDocument(WeftTest):
    def test_example(self):
        self.assertEqual(
            woven("All.", "= all", "|  <rest>", "", "= rest", "|x"),
            [("All.", 0), ("[1] all", 1), ("      <rest 2>", 2), ("", 3), ("[2] rest", 4),
             ("    x", 5), ("    (used in 1)", None), ("", None), ("all: 1", None),
             ("rest: 2", None)],
        )

    def test_document_without_sections(self):
        self.assertEqual(woven(""), [("", 0)])
        self.assertEqual(woven("a", "", " b"), [("a", 0), ("", 1), (" b", 2)])

    def test_prose(self):
        self.assertEqual(
            woven("", "[1] a", "    <b 1>", "= a", "", " p"),
            [("", 0), ("[1] a", 1), ("    <b 1>", 2), ("[1] a", 3), ("", 4), (" p", 5),
             ("", None), ("a: 1", None)],
        )

    def test_heads_have_the_number_of_their_section(self):
        self.assertEqual(
            [text for text in texts("= a", "= b.B", "|", "= a", "", "= c") if "[" in text],
            ["[1] a", "[2] b.B", "[3] a", "[4] c"],
        )

    def test_code(self):
        self.assertEqual(
            woven("= a", "|x", "|", "|  y", "|   ")[:5],
            [("[1] a", 0), ("    x", 1), ("", 2), ("      y", 3), ("       ", 4)],
        )

    def test_references(self):
        self.assertEqual(
            woven("= a", "|<b>", "|   <b>", "= c", "= b", "= b", "| <b>", "|<c>")[:3],
            [("[1] a", 0), ("    <b 3>", 1), ("       <b 3>", 2)],
        )
        self.assertEqual(texts("= b", "|x", "= b", "|  <b>")[5], "      <b 1>")

    def test_references_to_a_piece_that_there_is_not(self):
        self.assertEqual(
            woven("= a", "|<b>", "|  <A>"),
            [("[1] a", 0), ("    <b ?>", 1), ("      <A ?>", 2), ("", None), ("a: 1", None)],
        )

    def test_many_sections(self):
        lines = ["= b", "|<a>"] * 12 + ["= a"]
        self.assertIn("    (used in 1, 2, 3, 4, 5, 6, 7, 8, 9, 10, 11, 12)", texts(*lines))
        self.assertIn("[13] a", texts(*lines))
        self.assertIn("    <a 13>", texts(*lines))
        self.assertIn("    (goes on in 12)", texts(*lines))


class MadeLines(WeftTest):
    def test_used_in_several_sections_each_once(self):
        self.assertEqual(
            made("= a", "|<c>", "|x", "|<c>", "= b", "= a", "|<c>", "= c", "|<b>"),
            ["    (goes on in 3)", "    (used in 4)", "    (used in 1, 3)", "", "a: 1, 3", "b: 2",
             "c: 4"],
        )

    def test_used_in_tells_a_later_section_once_too(self):
        self.assertEqual(
            made("= a", "|<c>", "= b", "|<c>", "|x", "|<c>", "= c", "= c", "|<c>", "|<c>")[0],
            "    (used in 1, 2, 4)",
        )

    def test_used_in_stands_behind_the_first_section_alone(self):
        self.assertEqual(
            woven("= a", "|<b>", "= b", "|x", "p", "= b", "|y"),
            [("[1] a", 0), ("    <b 2>", 1), ("[2] b", 2), ("    x", 3), ("    (used in 1)", None),
             ("    (goes on in 3)", None), ("p", 4), ("[3] b", 5), ("    y", 6), ("", None),
             ("a: 1", None), ("b: 2, 3", None)],
        )

    def test_goes_on_in_tells_the_next_section(self):
        self.assertEqual(
            made("= a", "= b", "= a", "= b", "= a"),
            ["    (goes on in 3)", "    (goes on in 4)", "    (goes on in 5)", "", "a: 1, 3, 5",
             "b: 2, 4"],
        )

    def test_they_stand_behind_the_last_line_of_the_section(self):
        self.assertEqual(
            woven("= a", "= a", "|<a>", "", "p")[:6],
            [("[1] a", 0), ("    (used in 2)", None), ("    (goes on in 2)", None),
             ("[2] a", 1), ("    <a 1>", 2), ("", 3)],
        )

    def test_a_piece_that_uses_itself(self):
        self.assertEqual(made("= a", "|<a>"), ["    (used in 1)", "", "a: 1"])

    def test_uses_ahead_of_the_piece_and_behind_it(self):
        self.assertEqual(
            made("= c", "|<a>", "= a", "= b", "|<a>"),
            ["    (used in 1, 3)", "", "a: 2", "b: 3", "c: 1"],
        )

    def test_uses_that_no_root_needs_count(self):
        self.assertEqual(made("= a", "|x", "= z", "|<a>")[0], "    (used in 2)")

    def test_index_is_in_ascending_order_of_the_names(self):
        self.assertEqual(
            made("= b", "= B", "= a10", "= a2", "= _", "= b", "= -", "= 9", "= .")[1:],
            ["", "-: 7", ".: 9", "9: 8", "B: 2", "_: 5", "a10: 3", "a2: 4", "b: 1, 6"],
        )

    def test_section_that_prose_ends(self):
        self.assertEqual(
            woven("= a", "|x", "p"),
            [("[1] a", 0), ("    x", 1), ("p", 2), ("", None), ("a: 1", None)],
        )

    def test_results_are_new_lists(self):
        document = read("= a\n|x")
        weave(document).clear()
        self.assertEqual(len(weave(document)), 4)
