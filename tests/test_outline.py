"""Points 70 to 72: outlines, sizes and reports."""

from tests.made import NAMES, documents
from tests.support import WeftTest, outcome, text_of
from weft.checks import idle_pieces, knots, unknown_uses
from weft.errors import WeftError
from weft.lines import read
from weft.outline import outline, outline_texts, report, sizes
from weft.pieces import piece_lines, piece_names, sections, uses_of
from weft.tangling import length

DOCUMENT = read(text_of(
    "= a",        # 0
    "|<b>",       # 1
    "|<c>",       # 2
    "|<none>",    # 3
    "= b",        # 4
    "|x",         # 5
    "|<c>",       # 6
    "|<d>",       # 7
    "= c",        # 8
    "|  <d>",     # 9
    "|y",         # 10
    "= d",        # 11
    "= a",        # 12
    "|<b>",       # 13
))


def naive_outline(document, name, depth, seen):
    """Return an outline by the words of point 70."""
    is_first = name in piece_names(document) and name not in seen
    found = [(depth, name, is_first)]
    if is_first:
        seen.append(name)
        for _, target in uses_of(document, name):
            found.extend(naive_outline(document, target, depth + 1, seen))
    return found


class Outlines(WeftTest):
    def check(self, document, root, *expected):
        """Check the texts of an outline, and that the tuples tell the same."""
        self.assertEqual(outline_texts(document, root), list(expected))
        names = piece_names(document)
        found = outline(document, root)
        for (depth, name, is_first), text in zip(found, expected, strict=True):
            mark = "" if is_first else " (above)" if name in names else " (unknown)"
            self.assertIs(type(is_first), bool)
            self.assertEqual("  " * depth + name + mark, text)

    def test_pieces_that_are_used_at_several_places(self):
        self.assertEqual(outline(DOCUMENT, "a"), [
            (0, "a", True),
            (1, "b", True), (2, "c", True), (3, "d", True), (2, "d", False),
            (1, "c", False),
            (1, "none", False),
            (1, "b", False),
        ])
        self.check(DOCUMENT, "a", "a", "  b", "    c", "      d", "    d (above)",
                   "  c (above)", "  none (unknown)", "  b (above)")

    def test_a_piece_without_references(self):
        self.check(DOCUMENT, "d", "d")
        self.assertEqual(outline(DOCUMENT, "d"), [(0, "d", True)])

    def test_two_references_of_one_piece(self):
        self.check(read("= a\n|<b>\n|<b>\n|<c>\n|<c>\n= b"), "a",
                   "a", "  b", "  b (above)", "  c (unknown)", "  c (unknown)")

    def test_rings(self):
        self.check(read("= a\n|<a>"), "a", "a", "  a (above)")
        document = read("= a\n|<b>\n= b\n|<c>\n|<a>\n= c\n|<b>")
        self.check(document, "a", "a", "  b", "    c", "      b (above)", "    a (above)")
        self.check(document, "c", "c", "  b", "    c (above)", "    a", "      b (above)")

    def test_a_root_that_is_no_piece(self):
        self.check(DOCUMENT, "none", "none (unknown)")
        self.assertEqual(outline(DOCUMENT, "none"), [(0, "none", False)])
        self.assertEqual(outline(read(""), "a"), [(0, "a", False)])

    def test_what_stands_behind_is_told_at_the_first_place_in_the_outline(self):
        # The first reference to c in the document is not the first place of c.
        document = read("= c\n|<d>\n= a\n|<b>\n|<c>\n= b\n|<c>\n= d")
        self.check(document, "a", "a", "  b", "    c", "      d", "  c (above)")

    def test_long_rows_of_pieces(self):
        rows = []
        for at in range(3000):
            rows.extend([f"= p{at}", f"|<p{at + 1}>"])
        document = read(text_of(*rows))
        found = outline(document, "p0")
        self.assertEqual(found[:3], [(0, "p0", True), (1, "p1", True), (2, "p2", True)])
        self.assertEqual(found[-1], (3000, "p3000", False))
        self.assertEqual(len(outline_texts(document, "p0")), 3001)

    def test_many_branches(self):
        rows = []
        for at in range(200):
            rows.extend([f"= p{at}", f"|<p{at + 1}>", f"|<p{at + 1}>"])
        self.assertEqual(len(outline(read(text_of(*rows, "= p200")), "p0")), 401)

    def test_made_documents(self):
        for _, document in documents(False):
            for root in NAMES + ["e"]:
                found = outline(document, root)
                self.assertEqual(found, naive_outline(document, root, 0, []))
                self.check(document, root, *outline_texts(document, root))


class Sizes(WeftTest):
    def test_sizes(self):
        self.assertEqual(sizes(DOCUMENT), [
            ("a", 2, 4, None), ("b", 1, 3, 2), ("c", 1, 2, 1), ("d", 1, 0, 0)])

    def test_no_pieces(self):
        self.assertEqual(sizes(read("")), [])

    def test_order_of_the_first_heads_and_all_sections(self):
        document = read("= z\n|1\n= b\n= z\n\n= a\n|<z>\n|<b>\n|2\n= z\n|\n|<b>")
        self.assertEqual(sizes(document), [("z", 3, 3, 2), ("b", 1, 0, 0), ("a", 1, 3, 3)])

    def test_lengths_greater_than_2000(self):
        document = read(text_of("= a", *["|<b>"] * 3, "= b", *["|x"] * 2001))
        self.assertEqual(sizes(document), [("a", 1, 3, 6003), ("b", 1, 2001, 2001)])
        rows = []
        for at in range(300):
            rows.extend([f"= p{at}", f"|<p{at + 1}>", f"|<p{at + 1}>"])
        self.assertEqual(sizes(read(text_of(*rows, "= p300", "|x")))[0], ("p0", 1, 2, 2 ** 300))

    def test_knots(self):
        document = read(text_of(
            "= a", "|<b>", "= b", "|<c>", "|x", "= c", "|<b>", "= d", "|<d>", "= e", "|<f>",
            "= f", "|y", "= g", "|<e>", "|<d>"))
        self.assertEqual([size[3] for size in sizes(document)],
                         [None, None, None, None, 1, 1, None])

    def test_pieces_without_sections(self):
        document = read("= a\n|<b>\n|x\n= b\n|<none>\n= c\n|x")
        self.assertEqual(sizes(document), [("a", 1, 2, None), ("b", 1, 1, None), ("c", 1, 1, 1)])

    def test_long_rows_of_pieces(self):
        rows = []
        for at in range(3000):
            rows.extend([f"= p{at}", f"|<p{at + 1}>", "|x"])
        self.assertEqual(sizes(read(text_of(*rows, "= p3000")))[0], ("p0", 1, 2, 3000))
        self.assertEqual(sizes(read(text_of(*rows)))[0], ("p0", 1, 2, None))
        self.assertEqual(sizes(read(text_of(*rows, "= p3000", "|<p0>")))[7], ("p7", 1, 2, None))

    def test_made_documents(self):
        for _, document in documents(False):
            expected = []
            for name in piece_names(document):
                lines = piece_lines(document, name)
                count = [own for own, _, _ in sections(document)].count(name)
                try:
                    whole = length(document, name)
                except WeftError:
                    whole = None
                expected.append((name, count, len(lines), whole))
            self.assertEqual(sizes(document), expected)


class Reports(WeftTest):
    def test_nothing_to_tell(self):
        self.assertEqual(report(read("= a\n|x"), ["a"]), [])
        self.assertEqual(report(read("p"), []), [])

    def test_each_kind(self):
        document = read(text_of("p", "= a", "|<none>", "|x", "|  <other>"))
        self.assertEqual(report(document, ["a"]), [
            "line 3: unknown piece none", "line 5: unknown piece other"])
        document = read("= z\n|<y>\n= y\n|<z>\n= b\n|<b>")
        self.assertEqual(report(document, ["z", "b"]), ["knot: b", "knot: y, z"])
        document = read("= b\n|x\n= a\n|x\n= b\n|x")
        self.assertEqual(report(document, []), ["idle piece b", "idle piece a"])
        self.assertEqual(report(document, ["a", "none"]), ["idle piece b"])
        document = read("= b\n= a\n\n= b")
        self.assertEqual(report(document, ["a", "b"]), ["empty piece b", "empty piece a"])

    def test_order_of_the_kinds(self):
        document = read(text_of(
            "= e",        # 1
            "= k",        # 2
            "|<k>",       # 3
            "|<none>",    # 4
            "= a",        # 5
            "|<f>",       # 6
            "= f",        # 7
            "= j",        # 8
            "|<k>",       # 9
            "|<none>",    # 10
        ))
        self.assertEqual(report(document, ["a"]), [
            "line 4: unknown piece none",
            "line 10: unknown piece none",
            "knot: k",
            "idle piece e",
            "idle piece k",
            "idle piece j",
            "empty piece e",
            "empty piece f",
        ])

    def test_a_piece_with_an_empty_line_is_not_empty(self):
        self.assertEqual(report(read("= a\n|\n= b\n|<a>"), ["b"]), [])
        self.assertEqual(report(read("= a\n= a\n|"), ["a"]), [])

    def test_lists_stay(self):
        roots = ["a"]
        report(DOCUMENT, roots).clear()
        self.assertEqual(roots, ["a"])

    def test_made_documents(self):
        for rng, document in documents(False, 200):
            roots = [name for name in NAMES + ["e"] if rng.random() < 0.3]
            expected = [f"line {at + 1}: unknown piece {name}"
                        for at, name in unknown_uses(document)]
            expected += ["knot: " + ", ".join(knot) for knot in knots(document)]
            expected += [f"idle piece {name}" for name in idle_pieces(document, roots)]
            expected += [f"empty piece {name}" for name in piece_names(document)
                         if piece_lines(document, name) == []]
            self.assertEqual(outcome(report, document, roots), expected)
