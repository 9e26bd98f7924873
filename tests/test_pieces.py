"""Points 9 and 10: sections, pieces and the walk."""

from tests.support import WeftTest, text_of
from weft.errors import Missing, NoPiece, Ring
from weft.lines import read
from weft.pieces import closure, piece_lines, piece_names, sections, uses_of, users_of

MIXED = read(text_of(
    "Prose.",         # 0
    "= all",          # 1
    "|begin",         # 2
    "|  <rest>",      # 3
    "More.",          # 4
    "",               # 5
    "= rest",         # 6
    "= all",          # 7
    "|<none>",        # 8
    "|<rest>",        # 9
    "|end",           # 10
    "= rest",         # 11
    "|x",             # 12
    "| <Zed>",        # 13
    "",               # 14
    "= Zed",          # 15
    "= all",          # 16
))


def graph(**uses):
    """Return a document with a piece for each keyword, which uses pieces by letters."""
    lines = []
    for name, used in uses.items():
        lines.append(f"= {name}")
        lines.extend([f"|<{letter}>" for letter in used])
    return read(text_of(*lines))


class Sections(WeftTest):
    def test_sections(self):
        self.assertEqual(sections(MIXED), [
            ("all", 1, 4), ("rest", 6, 7), ("all", 7, 11), ("rest", 11, 14), ("Zed", 15, 16),
            ("all", 16, 17),
        ])

    def test_document_without_sections(self):
        self.assertEqual(sections(read("a\n\nb")), [])
        self.assertEqual(piece_names(read("")), [])

    def test_section_that_ends_with_the_document(self):
        self.assertEqual(sections(read("= a\n|x")), [("a", 0, 2)])
        self.assertEqual(sections(read("= a")), [("a", 0, 1)])
        self.assertEqual(sections(read("= a\n|x\n|<b>\n")), [("a", 0, 3)])

    def test_piece_names(self):
        self.assertEqual(piece_names(MIXED), ["all", "rest", "Zed"])
        self.assertEqual(piece_names(read("= b\n= a\n= c\n= a\n= b")), ["b", "a", "c"])

    def test_piece_lines(self):
        self.assertEqual(piece_lines(MIXED, "all"), [2, 3, 8, 9, 10])
        self.assertEqual(piece_lines(MIXED, "rest"), [12, 13])
        self.assertEqual(piece_lines(MIXED, "Zed"), [])

    def test_names_without_sections(self):
        for name in ["none", "zed", "", "a"]:
            self.assertEqual(piece_lines(MIXED, name), [])
            self.assertEqual(uses_of(MIXED, name), [])
        self.assertEqual(users_of(MIXED, "zed"), [])
        self.assertEqual(users_of(MIXED, "none"), [8])

    def test_uses_of(self):
        self.assertEqual(uses_of(MIXED, "all"), [(3, "rest"), (8, "none"), (9, "rest")])
        self.assertEqual(uses_of(MIXED, "rest"), [(13, "Zed")])
        self.assertEqual(uses_of(MIXED, "Zed"), [])

    def test_users_of(self):
        self.assertEqual(users_of(MIXED, "rest"), [3, 9])
        self.assertEqual(users_of(MIXED, "Zed"), [13])
        self.assertEqual(users_of(MIXED, "all"), [])
        self.assertEqual(users_of(read("= b\n|<a>\n|<b>\n= a\n|<a>"), "a"), [1, 4])

    def test_code_that_tells_a_name_is_no_use(self):
        document = read("= a\n|b\n|b <b>\nb\n= b")
        self.assertEqual(uses_of(document, "a"), [])
        self.assertEqual(users_of(document, "b"), [])

    def test_results_are_new_lists(self):
        for call in [sections, piece_names]:
            before = list(call(MIXED))
            call(MIXED).clear()
            self.assertEqual(call(MIXED), before)
        for call in [piece_lines, uses_of]:
            before = list(call(MIXED, "all"))
            call(MIXED, "all").clear()
            self.assertEqual(call(MIXED, "all"), before)


class Closure(WeftTest):
    def test_a_root_without_references(self):
        self.assertEqual(closure(read("= a\n|x\n= b"), "a"), ["a"])
        self.assertEqual(closure(read("= b\n= a"), "a"), ["a"])

    def test_pieces_are_told_when_their_visits_begin(self):
        self.assertEqual(closure(graph(a="bc", b="d", c="e", d="", e=""), "a"), list("abdce"))
        self.assertEqual(closure(graph(e="", d="", c="e", b="d", a="cb"), "a"), list("acebd"))

    def test_a_piece_is_visited_once(self):
        self.assertEqual(closure(graph(a="bbcb", b="c", c=""), "a"), ["a", "b", "c"])
        self.assertEqual(closure(graph(a="cb", b="cd", c="d", d=""), "a"), list("acdb"))

    def test_walk_goes_from_its_root(self):
        document = graph(a="b", b="c", c="", d="x")
        self.assertEqual(closure(document, "b"), ["b", "c"])
        self.assertEqual(closure(document, "c"), ["c"])

    def test_all_sections_count(self):
        document = read("= a\n|<b>\n= b\n|x\np\n= a\n|<c>\n= c\n= b\n|<d>\n= d")
        self.assertEqual(closure(document, "a"), ["a", "b", "d", "c"])

    def test_no_piece(self):
        self.assert_raises(NoPiece, {"name": "x"}, closure, graph(a="x"), "x")
        self.assert_raises(NoPiece, {"name": "A"}, closure, graph(a="a"), "A")
        self.assert_raises(NoPiece, {"name": "p"}, closure, read("p"), "p")

    def test_missing(self):
        self.assert_raises(Missing, {"line": 2, "name": "x"}, closure, graph(a="bxy", b=""), "a")
        document = graph(a="b", b="cz", c="")
        self.assert_raises(Missing, {"line": 4, "name": "z"}, closure, document, "a")
        self.assertEqual(closure(document, "c"), ["c"])

    def test_ring(self):
        self.assert_raises(Ring, {"names": ("a",)}, closure, graph(a="a"), "a")
        self.assert_raises(Ring, {"names": ("a", "b")}, closure, graph(a="b", b="a"), "a")
        self.assert_raises(Ring, {"names": ("b", "a")}, closure, graph(a="b", b="a"), "b")
        document = graph(a="b", b="c", c="d", d="a")
        self.assert_raises(Ring, {"names": tuple("abcd")}, closure, document, "a")

    def test_ring_that_does_not_begin_at_the_root(self):
        document = graph(a="b", b="ec", c="ed", d="b", e="")
        self.assert_raises(Ring, {"names": ("b", "c", "d")}, closure, document, "a")
        self.assert_raises(Ring, {"names": ("c",)}, closure, graph(a="bc", b="", c="bc"), "a")

    def test_pieces_whose_visit_has_ended_are_in_no_ring(self):
        document = graph(a="bcd", b="e", c="be", d="cbf", e="", f="d")
        self.assert_raises(Ring, {"names": ("d", "f")}, closure, document, "a")

    def test_the_walk_ends_with_its_first_error(self):
        self.assert_raises(Ring, {"names": ("a",)}, closure, graph(a="ax"), "a")
        self.assert_raises(Missing, {"line": 1, "name": "x"}, closure, graph(a="xa"), "a")
        self.assert_raises(Missing, {"line": 4, "name": "x"}, closure, graph(a="ba", b="x"), "a")
        self.assert_raises(Ring, {"names": ("b",)}, closure, graph(a="bx", b="b"), "a")
        # The reference to x has the lower line, but the walk comes to b first.
        document = read("= b\n|<a>\n= c\n|<x>\n= a\n|<b>\n|<c>")
        self.assert_raises(Ring, {"names": ("a", "b")}, closure, document, "a")

    def test_long_rows_of_pieces(self):
        count = 5000
        lines = [line for at in range(count) for line in (f"= p{at}", f"|<p{at + 1}>")]
        document = read(text_of(*lines, f"= p{count}"))
        self.assertEqual(closure(document, "p0"), [f"p{at}" for at in range(count + 1)])
        ring = read(text_of(*lines, f"= p{count}", "|<p1>"))
        names = tuple([f"p{at}" for at in range(1, count + 1)])
        self.assert_raises(Ring, {"names": names}, closure, ring, "p0")

    def test_many_ways_to_a_piece(self):
        lines = [line for at in range(60) for line in [f"= p{at}"] + [f"|<p{at + 1}>"] * 3]
        document = read(text_of(*lines, "= p60"))
        self.assertEqual(len(closure(document, "p0")), 61)
