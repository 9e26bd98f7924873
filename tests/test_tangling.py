"""Points 11 and 12: programs."""

from tests.support import WeftTest, text_of
from weft.errors import Missing, NoPiece, Ring, TooLong
from weft.lines import read
from weft.tangling import indent_of, length, tangle, texts_of

NESTED = read(text_of(
    "= all",        # 0
    "|begin",       # 1
    "|  <one>",     # 2
    "|",            # 3
    "| <two>",      # 4
    "",             # 5
    "= one",        # 6
    "|x",           # 7
    "|",            # 8
    "|   <two>",    # 9
    "= two",        # 10
    "| y",          # 11
    "Prose.",       # 12
    "= one",        # 13
    "|  ",          # 14
    "= two",        # 15
    "|",            # 16
))


def row(count, times, last):
    """Return a document with a row of pieces that each name the next one several times."""
    lines = []
    for at in range(count):
        lines.append(f"= p{at}")
        lines.extend([f"| <p{at + 1}>"] * times)
    return read(text_of(*lines, f"= p{count}", *last))


def block(count):
    return read(text_of("= a", *["|x"] * count))


class Programs(WeftTest):
    def test_example(self):
        self.assertEqual(
            tangle(read("= all\n|begin\n|  <rest>\n\n= rest\n|x\n|"), "all"),
            [("begin", 1, ()), ("  x", 5, (2,)), ("", 6, (2,))],
        )

    def test_indents_paths_and_empty_texts(self):
        self.assertEqual(tangle(NESTED, "all"), [
            ("begin", 1, ()),
            ("  x", 7, (2,)),
            ("", 8, (2,)),
            ("      y", 11, (2, 9)),
            ("", 16, (2, 9)),
            ("    ", 14, (2,)),
            ("", 3, ()),
            ("  y", 11, (4,)),
            ("", 16, (4,)),
        ])

    def test_program_of_an_inner_piece(self):
        self.assertEqual(tangle(NESTED, "one"), [
            ("x", 7, ()), ("", 8, ()), ("    y", 11, (9,)), ("", 16, (9,)), ("  ", 14, ()),
        ])
        self.assertEqual(tangle(NESTED, "two"), [(" y", 11, ()), ("", 16, ())])

    def test_length_is_that_of_the_program(self):
        for root in ["all", "one", "two"]:
            self.assertEqual(length(NESTED, root), len(tangle(NESTED, root)))

    def test_a_piece_used_twice(self):
        document = read("= a\n|<b>\n|  <b>\n= b\n|x")
        self.assertEqual(tangle(document, "a"), [("x", 4, (1,)), ("  x", 4, (2,))])
        self.assertEqual(length(document, "a"), 2)

    def test_pieces_without_lines(self):
        self.assertEqual(tangle(read("= a"), "a"), [])
        self.assertEqual(length(read("= a"), "a"), 0)
        self.assertEqual(tangle(read("= a\n|<b>\n|x\n|<b>\n= b"), "a"), [("x", 2, ())])

    def test_references_to_pieces_that_give_nothing_for_long(self):
        document = row(40, 3, [])
        self.assertEqual(length(document, "p0"), 0)
        self.assertEqual(tangle(document, "p0"), [])

    def test_a_long_row_of_pieces(self):
        document = row(4000, 1, ["|x", "|"])
        self.assertEqual(length(document, "p0"), 2)
        path = tuple(range(1, 8000, 2))
        self.assertEqual(tangle(document, "p0"), [
            (" " * 4000 + "x", 8001, path), ("", 8002, path),
        ])

    def test_indent_of(self):
        for path, indent in [((), 0), ((2,), 2), ((9,), 3), ((2, 9), 5), ((4,), 1), ((9, 2, 9), 8)]:
            self.assertEqual(indent_of(NESTED, path), indent)

    def test_texts_of(self):
        self.assertEqual(texts_of(tangle(NESTED, "two")), [" y", ""])
        self.assertEqual(texts_of([("a", None), ("b", 3), ("", None)]), ["a", "b", ""])
        self.assertEqual(texts_of([]), [])

    def test_nothing_that_is_passed_changes(self):
        lines = tangle(NESTED, "all")
        before = list(lines)
        texts_of(lines).clear()
        self.assertEqual(lines, before)
        lines.clear()
        self.assertEqual(tangle(NESTED, "all"), before)


class Limits(WeftTest):
    def test_2000_lines(self):
        self.assertEqual(length(block(2000), "a"), 2000)
        self.assertEqual(len(tangle(block(2000), "a")), 2000)

    def test_2001_lines(self):
        self.assertEqual(length(block(2001), "a"), 2001)
        self.assert_raises(TooLong, {}, tangle, block(2001), "a")

    def test_references_count_as_their_programs(self):
        lines = ["= a", *["|<b>"] * 1000, "= b", "|x", "|"]
        self.assertEqual(len(tangle(read(text_of(*lines)), "a")), 2000)
        lines[1:1] = ["|"]
        self.assertEqual(length(read(text_of(*lines)), "a"), 2001)
        self.assert_raises(TooLong, {}, tangle, read(text_of(*lines)), "a")

    def test_only_the_program_of_the_root_counts(self):
        lines = ["= b", "|x", *["= a"] + ["|x"] * 2001]
        self.assertEqual(tangle(read(text_of(*lines)), "b"), [("x", 1, ())])

    def test_many_millions_of_lines(self):
        document = row(100, 10, ["|x", "|y", "|"])
        self.assertEqual(length(document, "p0"), 3 * 10 ** 100)
        self.assertEqual(length(document, "p98"), 300)
        self.assert_raises(TooLong, {}, tangle, document, "p0")
        self.assertEqual(len(tangle(document, "p98")), 300)


class Errors(WeftTest):
    def check(self, error, attributes, document, root):
        for call in [length, tangle]:
            with self.subTest(call):
                self.assert_raises(error, attributes, call, document, root)

    def test_errors_of_the_walk(self):
        self.check(NoPiece, {"name": "b"}, read("= a\n|x"), "b")
        self.check(Missing, {"line": 2, "name": "b"}, read("= a\n|x\n|<b>"), "a")
        self.check(Ring, {"names": ("b",)}, read("= a\n|<b>\n= b\n|<b>"), "a")

    def test_errors_of_the_walk_come_before_too_long(self):
        long = ["= a", *["|x"] * 3000]
        self.check(Missing, {"line": 3001, "name": "b"}, read(text_of(*long, "|<b>")), "a")
        self.check(Ring, {"names": ("a",)}, read(text_of(*long, "|<a>")), "a")
        self.check(NoPiece, {"name": "b"}, read(text_of(*long)), "b")
        names = tuple([f"p{at}" for at in range(50)])
        self.check(Ring, {"names": names}, row(49, 4, ["|x", "|<p0>"]), "p0")
        self.check(Missing, {"line": 247, "name": "x"}, row(49, 4, ["|", "|<x>"]), "p0")
