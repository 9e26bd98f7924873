"""Points 48 to 52: unknown references, idle pieces, knots, depths and doubles."""

import random

from tests.made import documents
from tests.support import WeftTest, outcome, text_of
from weft.checks import (
    depths, idle_pieces, knots, longest_doubles, share, unknown_uses,
)
from weft.errors import BadPlace, Taken
from weft.lines import read, write
from weft.pieces import piece_names, uses_of
from weft.tangling import tangle, texts_of


def graph(*rows):
    """Return a document with a piece for each row, a name and the names to which it refers."""
    lines = []
    for row in rows:
        name, *used = row.split()
        lines.append(("head", name))
        lines.extend([("use", 0, other) for other in used])
    return tuple(lines)


def reached(document, name):
    """Return the pieces to which walks of at least one reference lead from a piece."""
    pieces = piece_names(document)
    found = []
    waiting = [name]
    while waiting:
        for _, used in uses_of(document, waiting.pop()):
            if used in pieces and used not in found:
                found.append(used)
                waiting.append(used)
    return found


class UnknownUses(WeftTest):
    def test_unknown_references(self):
        document = read("<e>\n= a\n|<e>\n|<b>\n|<a>\n= b\n| <z>\n|<e\n= c\n|   <e>")
        self.assertEqual(unknown_uses(document), [(2, "e"), (6, "z"), (9, "e")])

    def test_none(self):
        self.assertEqual(unknown_uses(read("")), [])
        self.assertEqual(unknown_uses(read("= a\n|<b>\n|<a>\n= b")), [])

    def test_a_piece_without_lines_is_known(self):
        self.assertEqual(unknown_uses(read("= a\n|<b>\n|<A>\n= b")), [(2, "A")])


class IdlePieces(WeftTest):
    document = graph("low", "a b low", "b gone b2", "b2 b", "idle low idle", "other idle2", "idle2 a",
                     "b low")

    def test_idle_pieces(self):
        for roots, idle in [
            (["a"], ["idle", "other", "idle2"]),
            (["idle"], ["a", "b", "b2", "other", "idle2"]),
            (["b2"], ["a", "idle", "other", "idle2"]),
            (["other"], ["idle"]),
            (["other", "idle"], []),
            (["idle", "a"], ["other", "idle2"]),
            (["a", "a"], ["idle", "other", "idle2"]),
            (["low"], ["a", "b", "b2", "idle", "other", "idle2"]),
        ]:
            with self.subTest(roots):
                before = list(roots)
                self.assertEqual(idle_pieces(self.document, roots), idle)
                self.assertEqual(roots, before)

    def test_roots_that_are_no_pieces(self):
        self.assertEqual(idle_pieces(self.document, ["gone", "a", "z"]), ["idle", "other", "idle2"])
        self.assertEqual(idle_pieces(self.document, ["z"]), piece_names(self.document))
        self.assertEqual(idle_pieces(self.document, []), piece_names(self.document))
        self.assertEqual(idle_pieces(read("p"), ["p"]), [])

    def test_order_of_first_heads(self):
        self.assertEqual(idle_pieces(graph("z", "b", "z", "a", "b", "Z"), ["a"]), ["z", "b", "Z"])

    def test_many(self):
        for rng, document in documents(False):
            roots = rng.sample(["a", "b", "c", "d", "e"], rng.randrange(3))
            needed = [root for root in roots if root in piece_names(document)]
            for root in needed[:]:
                needed.extend(reached(document, root))
            self.assertEqual(idle_pieces(document, roots),
                             [name for name in piece_names(document) if name not in needed])


class Knots(WeftTest):
    def test_none(self):
        self.assertEqual(knots(read("p")), [])
        self.assertEqual(knots(graph("a b c", "b c", "c")), [])
        self.assertEqual(knots(graph("a e", "b a")), [])

    def test_a_piece_alone(self):
        self.assertEqual(knots(graph("a a")), [("a",)])
        self.assertEqual(knots(graph("b b a", "a a b2", "b2")), [("a",), ("b",)])

    def test_rings(self):
        self.assertEqual(knots(graph("b c", "c a", "a b")), [("a", "b", "c")])
        self.assertEqual(knots(graph("z y", "y z", "b a", "a b")), [("a", "b"), ("y", "z")])

    def test_rings_with_a_piece_in_common_are_one_knot(self):
        self.assertEqual(knots(graph("m a z", "a m", "z y", "y m", "b m")), [("a", "m", "y", "z")])

    def test_knots_that_lead_to_each_other_one_way(self):
        self.assertEqual(knots(graph("c d", "d c a", "a b", "b a x", "x")), [("a", "b"), ("c", "d")])

    def test_order_is_that_of_tuples(self):
        self.assertEqual(knots(graph("b b", "a c", "c a", "B B", "b2 b2", "10 10")),
                         [("10",), ("B",), ("a", "c"), ("b",), ("b2",)])

    def test_unknown_names_are_in_no_knot(self):
        self.assertEqual(knots(graph("a e a e")), [("a",)])

    def test_references_of_further_sections(self):
        self.assertEqual(knots(graph("a", "b a", "a b")), [("a", "b")])

    def test_a_long_ring(self):
        rows = [f"p{at} p{at + 1}" for at in range(5000)]
        self.assertEqual(knots(graph(*rows)), [])
        found = knots(graph(*rows, "p5000 p0"))
        self.assertEqual(found, [tuple(sorted([f"p{at}" for at in range(5001)]))])

    def test_many(self):
        for _, document in documents(False):
            found = []
            for name in piece_names(document):
                ring = [other for other in reached(document, name) if name in reached(document, other)]
                if name in reached(document, name) and tuple(sorted(ring)) not in found:
                    found.append(tuple(sorted(ring)))
            self.assertEqual(knots(document), sorted(found))


class Depths(WeftTest):
    def test_depths(self):
        self.assertEqual(depths(read("p")), {})
        self.assertEqual(depths(graph("a b c", "b c", "c", "d")), {"a": 3, "b": 2, "c": 1, "d": 1})
        self.assertEqual(depths(graph("c", "b c c", "a c b")), {"a": 3, "b": 2, "c": 1})

    def test_all_sections_count(self):
        self.assertEqual(depths(graph("a", "b", "c b", "a c")), {"a": 3, "b": 1, "c": 2})

    def test_unknown_references_do_not_count(self):
        self.assertEqual(depths(graph("a e", "b a e", "c e a")), {"a": 1, "b": 2, "c": 2})

    def test_knotted_pieces_and_those_that_lead_to_them(self):
        self.assertEqual(depths(graph("a a", "b a low", "c b", "low", "d low")),
                         {"a": None, "b": None, "c": None, "low": 1, "d": 2})
        self.assertEqual(depths(graph("top x y", "x y low", "y x", "low")),
                         {"top": None, "x": None, "y": None, "low": 1})

    def test_pieces_behind_a_ring_have_a_depth(self):
        self.assertEqual(depths(graph("a b", "b a c", "c d", "d")),
                         {"a": None, "b": None, "c": 2, "d": 1})

    def test_a_long_row(self):
        rows = [f"p{at} p{at + 1}" for at in range(5000)]
        found = depths(graph(*rows, "p5000"))
        self.assertEqual((found["p0"], found["p4999"], found["p5000"]), (5001, 2, 1))

    def test_many_references_to_the_same_pieces(self):
        rows = [f"p{at} p{at + 1} p{at + 1}" for at in range(100)]
        self.assertEqual(depths(graph(*rows, "p100"))["p0"], 101)

    def test_many(self):
        for _, document in documents(False):
            knotted = [name for name in piece_names(document) if name in reached(document, name)]
            found = depths(document)
            self.assertEqual(list(found), piece_names(document))
            for name in found:
                below = reached(document, name)
                if [other for other in [name] + below if other in knotted]:
                    self.assertIsNone(found[name])
                else:
                    self.assertEqual(found[name], 1 + max([found[other] for other in below], default=0))


def naive_doubles(document):
    """Return the longest doubles, by a look at all pairs of runs."""
    for count in reversed(range(1, len(document) + 1)):
        for first in range(len(document)):
            for second in range(first + count, len(document) + 1 - count):
                run = document[first:first + count]
                if run == document[second:second + count] and all([line[0] == "code" for line in run]):
                    return (count, first, second)
    return None


class LongestDoubles(WeftTest):
    def check(self, text, found):
        document = read(text)
        self.assertEqual(longest_doubles(document), found)
        self.assertEqual(naive_doubles(document), found)

    def test_none(self):
        self.check("", None)
        self.check("p\np\n= a\n= a\np", None)
        self.check("= a\n|x\n|y\n|X\n| x", None)
        self.check("= a\n|<b>\n|<b>\n= a\n|<b>", None)
        self.check("= a\n|x\nx", None)

    def test_one_line(self):
        self.check("= a\n|x\n|y\n|x", (1, 1, 3))
        self.check("= a\n|\n= b\n|", (1, 1, 3))

    def test_longest(self):
        self.check("= a\n|x\n|y\n|x\n|z\n= b\n|y\n|x\n|z", (3, 2, 6))
        self.check("= a\n|1\n|2\n|3\n|4\n|5\n|6\n|7\n= b\n|0\n|1\n|2\n|3\n|4\n|5\n|6\n|7", (7, 1, 10))

    def test_runs_end_at_other_lines(self):
        self.check("= a\n|x\n|<c>\n|y\n= b\n|x\n|<c>\n|y", (1, 1, 5))
        self.check("= a\n|x\n= b\n|y\n= c\n|x\n= b\n|y", (1, 1, 5))
        self.check("= a\n|x\n|y\np\n= b\n|x\nq\n= c\n|y", (1, 1, 5))

    def test_runs_that_touch_each_other(self):
        self.check("= a\n|x\n|x", (1, 1, 2))
        self.check("= a\n|x\n|y\n|x\n|y", (2, 1, 3))
        self.check("= a\n|x\n|x\n|x\n|x", (2, 1, 3))

    def test_runs_with_a_line_in_common_are_none(self):
        self.check("= a\n|x\n|x\n|x", (1, 1, 2))
        self.check("= a\n|x\n|y\n|x\n|y\n|x", (2, 1, 3))
        self.check("= a\n|x\n|x\n|x\n|x\n|x", (2, 1, 3))
        self.check("= a\n" + "|x\n" * 11 + "p", (5, 1, 6))

    def test_several_of_the_same_length(self):
        self.check("= a\n|x\n|y\n|y\n|x\n|y\n|x", (2, 1, 4))
        self.check("= a\n|y\n|x\n|x\n|y\n|x\n|x", (3, 1, 4))
        self.check("= a\n|x\n|y\n= b\n|y\n= c\n|x", (1, 1, 6))
        self.check("= a\n|1\n|2\n= b\n|3\n|4\n= c\n|3\n|4\n= d\n|1\n|2\n= e\n|1\n|2", (2, 1, 10))

    def test_the_first_run_may_have_its_second_far_behind(self):
        self.check("= a\n|x\n|x\n|y\n|z\n= b\n|x\n|x\n= c\n|y\n|z\n= d\n|x\n|x", (2, 1, 6))
        self.check("= a\n|x\n|x\n|x\n= b\n|x\n|x", (2, 1, 5))

    def test_many(self):
        for seed in range(600):
            rng = random.Random(seed)
            lines = [("head", "a")]
            for _ in range(rng.randrange(24)):
                lines.append(rng.choice([("code", "x"), ("code", "x"), ("code", "y"), ("code", ""),
                                         rng.choice([("head", "a"), ("use", 0, "b"), ("code", "z")])]))
            document = tuple(lines)
            self.assertEqual(longest_doubles(document), naive_doubles(document), document)

    def test_long_documents(self):
        count = 4000
        self.assertEqual(longest_doubles((("head", "a"),) + (("code", "x"),) * count),
                         (count // 2, 1, 1 + count // 2))
        lines = tuple([("code", str(at)) for at in range(count)])
        self.assertIsNone(longest_doubles((("head", "a"),) + lines))
        self.assertEqual(longest_doubles((("head", "a"),) + lines + (("head", "b"),) + lines),
                         (count, 1, count + 2))


class Share(WeftTest):
    document = read(text_of(
        "= a",      # 0
        "|x",       # 1
        "| y",      # 2
        "|<b>",     # 3
        "|x",       # 4
        "| y",      # 5
        "|x",       # 6
        "p",        # 7
        "= b",      # 8
        "| y",      # 9
        "|x",       # 10
        "= c",      # 11
        "|<d>",     # 12
        "|x",       # 13
    ))

    def shared(self, expected, *arguments):
        before = write(self.document)
        found = share(self.document, *arguments)
        self.assertEqual(write(found), expected)
        self.assertIs(type(found), tuple)
        self.assertEqual(read(write(found)), found)
        self.assertEqual(write(self.document), before)

    def test_two_lines(self):
        self.shared(text_of(
            "= a", "|<new>", "|<b>", "|<new>", "|x", "p", "= b", "| y", "|x", "= c", "|<d>", "|x",
            "", "= new", "|x", "| y"), 1, 4, 2, "new")

    def test_other_sections_and_indents(self):
        self.shared(text_of(
            "= a", "|x", "| y", "|<b>", "|x", "|<new>", "p", "= b", "|<new>", "= c", "|<d>", "|x",
            "", "= new", "| y", "|x"), 5, 9, 2, "new")

    def test_doubles_that_are_not_the_longest(self):
        self.shared(text_of(
            "= a", "|<new>", "| y", "|<b>", "|x", "| y", "|x", "p", "= b", "| y", "|x", "= c", "|<d>",
            "|<new>", "", "= new", "|x"), 1, 13, 1, "new")

    def test_runs_that_touch_each_other(self):
        document = read("= a\n|x\n|x\n|x\n|x")
        self.assertEqual(write(share(document, 1, 3, 2, "n")), "= a\n|<n>\n|<n>\n\n= n\n|x\n|x")
        self.assertEqual(write(share(document, 2, 3, 1, "n")), "= a\n|x\n|<n>\n|<n>\n|x\n\n= n\n|x")

    def test_bad_places(self):
        for first, second, count in [
            (4, 1, 2), (1, 1, 1), (1, 1, 2), (1, 4, 3), (1, 5, 1), (1, 2, 1), (4, 6, 3), (2, 5, 0),
            (1, 4, 0), (1, 4, -1), (0, 8, 1), (3, 12, 1), (7, 7, 1), (-13, 4, 1), (-1, 1, 1),
            (1, -1, 1), (6, 13, 2), (13, 14, 1), (14, 15, 1), (1, 4, 10 ** 12), (10 ** 12, 10 ** 13, 1),
            (1, 10 ** 12, 1), (0, 11, 0), (5, 9, 3),
        ]:
            with self.subTest(first=first, second=second, count=count):
                self.assert_raises(BadPlace, {}, share, self.document, first, second, count, "new")

    def test_runs_of_references_and_heads_are_no_doubles(self):
        document = read("= a\n|<b>\n|x\n= a\n|<b>\n|x\n= a")
        for first, second, count in [(1, 4, 1), (1, 4, 2), (0, 3, 1), (0, 3, 3), (2, 5, 2)]:
            self.assert_raises(BadPlace, {}, share, document, first, second, count, "new")
        self.assertEqual(share(document, 2, 5, 1, "new")[2], ("use", 0, "new"))

    def test_runs_with_a_line_in_common(self):
        document = read("= a\n|x\n|x\n|x")
        self.assert_raises(BadPlace, {}, share, document, 1, 2, 2, "new")

    def test_taken(self):
        for name in ["a", "b", "c", "d"]:
            self.assert_raises(Taken, {"name": name}, share, self.document, 1, 4, 2, name)

    def test_bad_place_comes_before_taken(self):
        self.assert_raises(BadPlace, {}, share, self.document, 4, 1, 2, "a")

    def test_programs_stay(self):
        shared = 0
        for in_order in (False, True):
            for _, document in documents(in_order):
                found = longest_doubles(document)
                self.assertEqual(found, naive_doubles(document))
                if found is None:
                    continue
                shared += 1
                count, first, second = found
                new = share(document, first, second, count, "new")
                self.assertEqual(read(write(new)), new)
                for name in piece_names(document):
                    self.assertEqual(self.told(new, name), self.told(document, name))
        self.assertGreater(shared, 100)

    def told(self, document, root):
        found = outcome(tangle, document, root)
        return texts_of(found) if isinstance(found, list) else found[0]
