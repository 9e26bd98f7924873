"""Point 23: the fates of two hands."""

from tests.support import DROP, KEEP, WeftTest, behind, to
from weft.errors import Both
from weft.merging import merge


class Merging(WeftTest):
    def test_lines_of_one_hand_alone(self):
        one = {3: ((), DROP, ()), 1: behind("x")}
        other = {2: ((), to("y"), ("z",))}
        found = {1: behind("x"), 2: ((), to("y"), ("z",)), 3: ((), DROP, ())}
        self.assertEqual(merge(one, other), found)
        self.assertEqual(merge(other, one), found)
        self.assertEqual(merge(one, {}), one)
        self.assertEqual(merge({}, one), one)
        self.assertEqual(merge({}, {}), {})

    def test_lines_that_both_have_alike(self):
        one = {4: ((), to("a"), ("b",)), 0: ((), DROP, ())}
        other = {0: ((), DROP, ()), 4: ((), to("a"), ("b",)), 5: behind("c")}
        self.assertEqual(merge(one, other), other)
        self.assertEqual(merge(other, one), other)

    def test_unlike_fates(self):
        for fate in [((), KEEP, ("a",)), ((), to("x"), ()), ((), to("a"), ("b",)), ((), DROP, ())]:
            for other in [((), KEEP, ("b",)), ((), to("y"), ()), ((), to("a"), ())]:
                with self.subTest(fate=fate, other=other):
                    self.assert_raises(Both, {"line": 7}, merge, {7: fate}, {7: other})
                    self.assert_raises(Both, {"line": 7}, merge, {7: other}, {7: fate})

    def test_first_unlike_line_in_ascending_order(self):
        alike = behind("same")
        one = {9: behind("a"), 5: behind("a"), 2: alike, 10: behind("a"), 1: behind("a")}
        other = {10: behind("b"), 9: behind("b"), 2: alike, 5: behind("b"), 0: behind("b")}
        self.assert_raises(Both, {"line": 5}, merge, one, other)
        self.assert_raises(Both, {"line": 5}, merge, other, one)
        turned = {line: one[line] for line in reversed(list(one))}
        self.assert_raises(Both, {"line": 5}, merge, turned, other)

    def test_what_is_passed_stays(self):
        one = {2: behind("a")}
        other = {1: behind("b")}
        merge(one, other)[0] = behind("c")
        merge(one, {})[0] = behind("c")
        merge({}, other)[0] = behind("c")
        self.assertEqual((one, other), ({2: behind("a")}, {1: behind("b")}))
        with self.assertRaises(Both):
            merge(one, {2: behind("b")})
        self.assertEqual(one, {2: behind("a")})
