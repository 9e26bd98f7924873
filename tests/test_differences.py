"""Points 16 and 24: least edits and what they cost."""

import itertools
import random

from tests.support import DROP, SAME, WeftTest, ahead, behind, to
from weft.differences import cost_of, least_edits
from weft.errors import BadPlace
from weft.fates import edited


def least_costs(old, most):
    """Return the least costs of all edits of a list that put at most so many texts a, b, c.

    They are told for each list of texts to which some of the edits lead.
    """
    texts = [row for count in range(most + 1) for row in itertools.product("abc", repeat=count)]
    changes = [("keep",), ("drop",), ("text", "a"), ("text", "b"), ("text", "c")]
    found = {}
    for edits in itertools.product(itertools.product(texts, changes, texts), repeat=len(old)):
        if sum([len(above) + len(below) for above, _, below in edits]) <= most:
            new = tuple(edited(old, edits))
            found[new] = min(found.get(new, 99), cost_of(list(edits)))
    return found


def distance(old, new):
    """Return the least cost, reckoned from a table of all beginnings of the lists."""
    costs = list(range(len(new) + 1))
    for at, line in enumerate(old):
        row = [at + 1]
        for column, other in enumerate(new):
            step = 0 if line == other else 1
            row.append(min(row[-1] + 1, costs[column + 1] + 1, costs[column] + step))
        costs = row
    return costs[-1]


class Costs(WeftTest):
    def test_costs(self):
        for edits, cost in [
            ([], 0),
            ([SAME, SAME], 0),
            ([((), DROP, ())], 1),
            ([((), to("a"), ())], 1),
            ([ahead("a", "b", "c")], 3),
            ([behind("", "")], 2),
            ([(("a",), DROP, ("b",))], 3),
            ([(("a",), to("c"), ("b", "d")), SAME, behind("x"), ((), DROP, ())], 6),
        ]:
            with self.subTest(edits):
                before = list(edits)
                self.assertEqual(cost_of(edits), cost)
                self.assertEqual(edits, before)


class LeastEdits(WeftTest):
    def check(self, old, new, cost):
        before = (list(old), list(new))
        edits = least_edits(old, new)
        self.assertEqual(len(edits), len(old))
        self.assertEqual(edited(old, edits), new)
        self.assertEqual(cost_of(edits), cost)
        for edit in edits[1:]:
            self.assertEqual(edit[0], ())
        for above, change, below in edits:
            self.assertIs(type(above), tuple)
            self.assertIs(type(below), tuple)
            self.assertIn(change[0], ("keep", "drop", "text"))
        self.assertEqual((old, new), before)

    def test_where_there_is_one_way_alone(self):
        for old, new, edits in [
            (["a", "b"], ["a", "b"], [SAME, SAME]),
            (["a", "b"], ["b"], [((), DROP, ()), SAME]),
            (["a", "b"], ["a"], [SAME, ((), DROP, ())]),
            (["a", "b"], [], [((), DROP, ())] * 2),
            (["a", "b"], ["a", "c"], [SAME, ((), to("c"), ())]),
            (["a", "b"], ["x", "a", "b"], [ahead("x"), SAME]),
            (["a", "b"], ["a", "b", "x", "y"], [SAME, behind("x", "y")]),
            (["a", "b"], ["a", "x", "b"], [behind("x"), SAME]),
            (["a"], ["x", "y", "a", "z"], [(("x", "y"), ("keep",), ("z",))]),
        ]:
            with self.subTest(old=old, new=new):
                self.assertEqual(least_edits(old, new), edits)

    def test_no_old_lines(self):
        self.assertEqual(least_edits([], []), [])
        self.assert_raises(BadPlace, {}, least_edits, [], ["a"])
        self.assert_raises(BadPlace, {}, least_edits, [], ["", ""])

    def test_empty_texts_are_lines(self):
        self.check([""], ["", ""], 1)
        self.check(["", "a", ""], ["", ""], 1)
        self.check(["a"], [""], 1)

    def test_other_texts_are_cheaper_than_a_drop_and_a_new_one(self):
        self.check(["a", "b", "c"], ["x", "y", "z"], 3)
        self.check(["a", "b", "c"], ["x", "y", "z", "w"], 4)
        self.check(["a", "b", "c"], ["b", "c", "d"], 2)
        self.check(["a", "b", "c", "d"], ["c", "d", "a", "b"], 4)

    def test_all_edits_of_small_lists(self):
        for old in [["a"], ["a", "a"], ["a", "b"], ["c", "b"]]:
            for new, cost in least_costs(old, 2).items():
                self.check(old, list(new), cost)

    def test_small_lists_by_a_table(self):
        for seed in range(1500):
            rng = random.Random(seed)
            signs = "abcdefgh"[:rng.randrange(1, 9)]
            old = [rng.choice(signs) for _ in range(rng.randrange(1, 9))]
            new = [rng.choice(signs) for _ in range(rng.randrange(9))]
            self.check(old, new, distance(old, new))

    def test_lists_of_30_lines(self):
        for seed in range(60):
            rng = random.Random(seed)
            old = [rng.choice("abcdefghij") for _ in range(30)]
            new = [rng.choice("abcdefghij") for _ in range(30)]
            self.check(old, new, distance(old, new))
            near = list(old)
            for _ in range(4):
                at = rng.randrange(len(near))
                near[at:at + rng.randrange(2)] = [rng.choice("xyz")]
            self.check(old, near, distance(old, near))

    def test_lists_of_70_lines_with_long_equal_rows(self):
        old = ["a"] * 33 + ["b"] * 33 + ["c"] * 4
        for new in [["a"] * 70, ["b"] * 66, old[1:] + old[:1], old[::-1], ["b"] + old, old + old]:
            self.check(old, new, distance(old, new))

    def test_lists_of_2000_lines(self):
        rng = random.Random(1)
        old = [str(at) for at in range(2000)]
        self.check(old, ["x"] * 2000, 2000)
        self.check(old, old[7:] + ["y"] * 3, 10)
        self.check(old, old[:500] + ["x"] + old[500:1000] + old[1001:1500] + ["z"] + old[1501:], 3)
        mixed = [rng.choice(old) for _ in range(2000)]
        self.assertEqual(edited(old, least_edits(old, mixed)), mixed)

    def test_results_share_no_state(self):
        old = ["a"]
        least_edits(old, ["a"]).append(SAME)
        self.assertEqual(least_edits(old, ["a"]), [SAME])
