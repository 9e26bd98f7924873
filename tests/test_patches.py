"""Points 34 to 39: edits one after the other, back again, and of two hands."""

import itertools
import random

from tests.made import some_edits
from tests.support import DROP, KEEP, SAME, WeftTest, ahead, behind, outcome, to
from weft.errors import BadPlace, Clash
from weft.fates import edited, untouched
from weft.patches import compose, inverse, join, moved

GONE = ((), DROP, ())


def some_texts(rng):
    return [rng.choice("abc") for _ in range(rng.randrange(5))]


class PatchTest(WeftTest):
    def unchanged(self, call, *arguments, **more):
        """Return what a call returns; check that the lists passed to it stay."""
        before = [list(argument) for argument in arguments]
        found = outcome(call, *arguments, **more)
        self.assertEqual([list(argument) for argument in arguments], before)
        if isinstance(found, list):
            for above, change, below in found:
                self.assertIs(type(above), tuple)
                self.assertIs(type(change), tuple)
                self.assertIs(type(below), tuple)
        return found


class Compose(PatchTest):
    def test_changes_of_a_line(self):
        for first, second, found in [
            (SAME, SAME, SAME),
            (SAME, GONE, GONE),
            (SAME, ((), to("x"), ()), ((), to("x"), ())),
            (((), to("x"), ()), SAME, ((), to("x"), ())),
            (((), to("x"), ()), ((), to("y"), ()), ((), to("y"), ())),
            (((), to("x"), ()), GONE, GONE),
            (((), to("x"), ()), ((), to("x"), ()), ((), to("x"), ())),
            (SAME, (("p",), KEEP, ("q",)), (("p",), KEEP, ("q",))),
            (((), to("x"), ()), (("p",), DROP, ("q",)), (("p",), DROP, ("q",))),
        ]:
            with self.subTest(first=first, second=second):
                self.assertEqual(self.unchanged(compose, [first], [second]), [found])

    def test_a_line_that_the_first_edits_drop(self):
        self.assertEqual(compose([GONE], []), [GONE])
        self.assertEqual(compose([GONE, SAME], [((), to("x"), ())]), [GONE, ((), to("x"), ())])
        self.assertEqual(compose([(("a",), DROP, ("b",))], [SAME, SAME]), [(("a",), DROP, ("b",))])
        self.assertEqual(
            compose([(("a",), DROP, ("b",))], [(("1",), KEEP, ("2",)), (("3",), DROP, ("4",))]),
            [(("1", "a", "2"), DROP, ("3", "4"))])

    def test_edits_of_texts_that_the_first_edits_put(self):
        first = [(("a", "b"), KEEP, ("c", "d"))]
        self.assertEqual(compose(first, untouched(5)), first)
        self.assertEqual(
            compose(first, [GONE, (("1",), to("B"), ("2",)), SAME, ((), to("C"), ()), GONE]),
            [(("1", "B", "2"), KEEP, ("C",))])

    def test_texts_at_the_line_stand_between_those_of_the_first_edits(self):
        self.assertEqual(
            compose([(("a",), KEEP, ("b",))], [behind("1"), (("2",), to("x"), ("3",)), ahead("4")]),
            [(("a", "1", "2"), to("x"), ("3", "4", "b"))])

    def test_several_lines(self):
        first = [behind("x"), GONE, ahead("y"), ((), to("z"), ())]
        second = [SAME, GONE, behind("p"), ((), to("q"), ()), ahead("r")]
        self.assertEqual(self.unchanged(compose, first, second), [
            SAME, GONE, (("y", "p"), to("q"), ()), (("r",), to("z"), ())])

    def test_no_lines(self):
        self.assertEqual(compose([], []), [])

    def test_untouched_edits_on_either_side(self):
        for seed in range(200):
            rng = random.Random(seed)
            texts = some_texts(rng)
            edits = some_edits(rng, len(texts))
            self.assertEqual(compose(untouched(len(texts)), edits), edits)
            self.assertEqual(compose(edits, untouched(len(edited(texts, edits)))), edits)

    def test_edited_texts_are_those_of_both(self):
        for seed in range(1500):
            rng = random.Random(seed)
            texts = some_texts(rng)
            first = some_edits(rng, len(texts))
            middle = edited(texts, first)
            second = some_edits(rng, len(middle))
            found = self.unchanged(compose, first, second)
            self.assertEqual(len(found), len(texts))
            if texts:
                self.assertEqual(edited(texts, found), edited(middle, second))

    def test_three_edits_from_the_left_and_from_the_right(self):
        for seed in range(1500):
            rng = random.Random(seed)
            texts = some_texts(rng)
            first = some_edits(rng, len(texts))
            texts = edited(texts, first)
            second = some_edits(rng, len(texts))
            texts = edited(texts, second)
            third = some_edits(rng, len(texts))
            self.assertEqual(compose(compose(first, second), third),
                             compose(first, compose(second, third)))


class Inverse(PatchTest):
    def test_example(self):
        one = [GONE, behind("x")]
        self.assertEqual(inverse(["a", "b"], one), [ahead("a"), GONE])

    def test_changes_of_a_line(self):
        self.assertEqual(self.unchanged(inverse, ["a", "b"], [SAME, SAME]), [SAME, SAME])
        self.assertEqual(inverse(["a"], [((), to("x"), ())]), [((), to("a"), ())])
        self.assertEqual(inverse(["a"], [((), to(""), ())]), [((), to("a"), ())])
        self.assertEqual(inverse([""], [((), to("x"), ())]), [((), to(""), ())])

    def test_a_line_that_gets_its_own_text_has_no_other_one(self):
        self.assertEqual(inverse(["a", "b"], [((), to("a"), ()), ((), to("a"), ())]),
                         [SAME, ((), to("b"), ())])

    def test_texts_that_are_put_are_dropped(self):
        self.assertEqual(inverse(["a"], [(("p", "q"), KEEP, ("r",))]), [GONE, GONE, SAME, GONE])
        self.assertEqual(inverse(["a"], [(("p",), to("x"), ("r", "s"))]),
                         [GONE, ((), to("a"), ()), GONE, GONE])

    def test_dropped_lines_are_put_behind_the_last_line_before(self):
        self.assertEqual(inverse(["a", "b", "c", "d"], [SAME, GONE, GONE, SAME]),
                         [behind("b", "c"), SAME])
        self.assertEqual(inverse(["a", "b"], [behind("x"), GONE]), [SAME, ((), DROP, ("b",))])
        self.assertEqual(inverse(["a", "b"], [((), to("x"), ()), (("y",), DROP, ("z",))]),
                         [((), to("a"), ()), ((), DROP, ("b",)), GONE])

    def test_dropped_lines_with_no_line_before_are_put_ahead(self):
        self.assertEqual(inverse(["a", "b", "c"], [GONE, GONE, SAME]), [ahead("a", "b")])
        self.assertEqual(inverse(["a", "b"], [((), DROP, ("x",)), GONE]),
                         [(("a",), DROP, ("b",))])
        self.assertEqual(inverse(["a"], [(("x",), DROP, ())]), [((), DROP, ("a",))])

    def test_all_lines_dropped(self):
        self.assert_raises(BadPlace, {}, inverse, ["a"], [GONE])
        self.assert_raises(BadPlace, {}, inverse, ["", "b"], [GONE, GONE])

    def test_no_lines(self):
        self.assertEqual(inverse([], []), [])

    def test_leads_back(self):
        refused = 0
        for seed in range(1500):
            rng = random.Random(seed)
            texts = some_texts(rng)
            edits = some_edits(rng, len(texts))
            new = edited(texts, edits)
            found = self.unchanged(inverse, texts, edits)
            if new == [] and texts != []:
                refused += 1
                self.assertEqual(found, (BadPlace, {}))
            else:
                self.assertEqual(len(found), len(new))
                self.assertEqual(edited(new, found), texts)
                for edit in found[1:]:
                    self.assertEqual(edit[0], ())
        self.assertGreater(refused, 5)


CHANGES = [KEEP, DROP, to("a"), to("x"), to("y")]


class Join(PatchTest):
    def test_texts_of_the_first_hand_stand_first(self):
        self.assertEqual(
            self.unchanged(join, [(("a", "b"), KEEP, ("c",))], [(("d",), KEEP, ("e", "f"))]),
            [(("a", "b", "d"), KEEP, ("c", "e", "f"))])
        self.assertEqual(join([ahead("a"), SAME], [SAME, behind("b")]), [ahead("a"), behind("b")])

    def test_changes(self):
        for one, other in itertools.product(CHANGES, CHANGES):
            with self.subTest(one=one, other=other):
                found = self.unchanged(join, [SAME, ((), one, ())], [SAME, ((), other, ())])
                if KEEP in (one, other):
                    self.assertEqual(found, [SAME, ((), other if one == KEEP else one, ())])
                elif one == other:
                    self.assertEqual(found, [SAME, ((), one, ())])
                else:
                    self.assertEqual(found, (Clash, {"at": 1}))

    def test_first_clash(self):
        one = [((), to("x"), ()), GONE, ((), to("x"), ()), GONE]
        other = [((), to("x"), ()), SAME, ((), to("y"), ()), ((), to("z"), ())]
        self.assert_raises(Clash, {"at": 2}, join, one, other)
        self.assert_raises(Clash, {"at": 2}, join, other, one)
        self.assert_raises(Clash, {"at": 0}, join, [GONE], [((), to("a"), ())])

    def test_no_lines(self):
        self.assertEqual(join([], []), [])

    def test_untouched_edits(self):
        for seed in range(100):
            rng = random.Random(seed)
            edits = some_edits(rng, 3)
            self.assertEqual(join(edits, untouched(3)), edits)
            self.assertEqual(join(untouched(3), edits), edits)


class Moved(PatchTest):
    def test_example(self):
        one = [GONE, behind("x")]
        self.assertEqual(moved([behind("y"), behind("z")], one, is_first=False),
                         [ahead("y"), behind("z")])

    def test_texts_ahead_and_behind_of_both_hands(self):
        mine = [(("m",), KEEP, ("n",))]
        past = [(("p", "q"), KEEP, ("r", "s"))]
        self.assertEqual(self.unchanged(moved, mine, past, is_first=True),
                         [ahead("m"), SAME, behind("n"), SAME, SAME])
        self.assertEqual(self.unchanged(moved, mine, past, is_first=False),
                         [SAME, behind("m"), SAME, SAME, behind("n")])

    def test_texts_stand_behind_the_last_line_before(self):
        mine = [SAME, ahead("m"), (("n",), to("x"), ())]
        past = [behind("p"), GONE, SAME]
        for is_first in (True, False):
            self.assertEqual(moved(mine, past, is_first=is_first),
                             [SAME, behind("m", "n"), ((), to("x"), ())])

    def test_changes(self):
        for mine, past in itertools.product(CHANGES, CHANGES):
            for is_first in (True, False):
                with self.subTest(mine=mine, past=past, is_first=is_first):
                    found = self.unchanged(moved, [((), mine, ()), SAME], [((), past, ()), SAME],
                                           is_first=is_first)
                    if mine != KEEP and past != KEEP and mine != past:
                        self.assertEqual(found, (Clash, {"at": 0}))
                    elif past == DROP:
                        self.assertEqual(found, [SAME])
                    elif mine == past:
                        self.assertEqual(found, [SAME, SAME])
                    else:
                        self.assertEqual(found, [((), mine, ()), SAME])

    def test_texts_at_a_line_that_the_other_hand_drops(self):
        mine = [(("m",), KEEP, ("n",)), SAME]
        for is_first in (True, False):
            self.assertEqual(moved(mine, [GONE, SAME], is_first=is_first), [ahead("m", "n")])
        past = [((), DROP, ("p",)), SAME]
        self.assertEqual(moved(mine, past, is_first=True), [ahead("m", "n"), SAME])
        self.assertEqual(moved(mine, past, is_first=False), [(("m",), KEEP, ("n",)), SAME])

    def test_the_other_hand_drops_all_lines(self):
        for is_first in (True, False):
            for mine in [ahead("m"), behind("m"), ((), DROP, ("m",))]:
                self.assert_raises(BadPlace, {}, moved, [mine], [GONE], is_first=is_first)
                self.assert_raises(BadPlace, {}, moved, [SAME, mine], [GONE, GONE],
                                   is_first=is_first)
            self.assertEqual(moved([SAME, GONE], [GONE, GONE], is_first=is_first), [])
            self.assertEqual(moved([], [], is_first=is_first), [])

    def test_clash_comes_before_bad_place(self):
        mine = [behind("m"), SAME, ((), to("x"), ())]
        self.assert_raises(Clash, {"at": 2}, moved, mine, [GONE] * 3, is_first=True)

    def test_is_first_is_told_by_its_name(self):
        with self.assertRaises(TypeError):
            moved([SAME], [SAME], True)
        with self.assertRaises(TypeError):
            moved([SAME], [SAME])

    def test_untouched_edits(self):
        for seed in range(100):
            rng = random.Random(seed)
            edits = some_edits(rng, 3)
            count = len(edited(["a", "b", "c"], edits))
            for is_first in (True, False):
                self.assertEqual(moved(untouched(3), edits, is_first=is_first), untouched(count))
                self.assertEqual(edited(["a", "b", "c"], moved(edits, untouched(3), is_first=is_first)),
                                 edited(["a", "b", "c"], edits))

    def test_both_orders_lead_to_the_joined_texts(self):
        joined = clashes = refused = 0
        for seed in range(2500):
            rng = random.Random(seed)
            texts = some_texts(rng)
            one = some_edits(rng, len(texts))
            other = some_edits(rng, len(texts))
            both = outcome(join, one, other)
            ways = [(one, other, True), (other, one, False)]
            for mine, past, is_first in ways:
                found = self.unchanged(moved, mine, past, is_first=is_first)
                middle = edited(texts, past)
                if isinstance(both, tuple):
                    clashes += 1
                    self.assertEqual(found, both)
                elif middle == [] and edited(texts, both) != []:
                    refused += 1
                    self.assertEqual(found, (BadPlace, {}))
                else:
                    joined += 1
                    self.assertEqual(edited(middle, found), edited(texts, both))
                    if texts:
                        self.assertEqual(edited(texts, compose(past, found)), edited(texts, both))
        self.assertGreater(min(joined, clashes), 1000)
        self.assertGreater(refused, 5)
