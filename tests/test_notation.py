"""Points 40 and 41: the text form of edits."""

import random

from tests.made import some_edits
from tests.support import DROP, KEEP, SAME, WeftTest, ahead, behind, text_of, to
from weft.errors import BadPatch
from weft.fates import untouched
from weft.notation import read_patch, write_patch


class NotationTest(WeftTest):
    def same(self, edits, text):
        """Check that edits and a text are forms of each other."""
        before = list(edits)
        self.assertEqual(write_patch(edits), text)
        self.assertEqual(read_patch(text), edits)
        self.assertEqual(edits, before)

    def bad(self, line, what, *rows):
        with self.subTest(rows=rows[:9]):
            self.assert_raises(BadPatch, {"line": line, "what": what}, read_patch, text_of(*rows))


class Forms(NotationTest):
    def test_example(self):
        self.assertEqual(read_patch("edits 2\n@ 1\n~b\n+c"), [SAME, ((), to("b"), ("c",))])

    def test_untouched_edits(self):
        self.same([], "edits 0")
        self.same([SAME], "edits 1")
        self.same(untouched(2000), "edits 2000")

    def test_changes_and_texts(self):
        self.same([((), DROP, ())], "edits 1\n@ 0\n-")
        self.same([((), to("x y"), ())], "edits 1\n@ 0\n~x y")
        self.same([ahead("a", "b")], "edits 1\n@ 0\n^a\n^b")
        self.same([behind("a", "b")], "edits 1\n@ 0\n+a\n+b")
        self.same([(("a",), DROP, ("b", "c"))], "edits 1\n@ 0\n^a\n-\n+b\n+c")
        self.same([(("a", "b"), to("c"), ("d",))], "edits 1\n@ 0\n^a\n^b\n~c\n+d")
        self.same([(("a",), KEEP, ("b",))], "edits 1\n@ 0\n^a\n+b")

    def test_empty_texts(self):
        self.same([(("", ""), to(""), ("",))], "edits 1\n@ 0\n^\n^\n~\n+")

    def test_several_edits(self):
        edits = untouched(12)
        edits[0] = behind("x")
        edits[3] = ((), DROP, ())
        edits[11] = ahead("y")
        self.same(edits, "edits 12\n@ 0\n+x\n@ 3\n-\n@ 11\n^y")

    def test_texts_that_look_like_other_lines(self):
        for text in ["@ 0", "-", "~a", "^a", "+a", "edits 1", " ", "\\n", "- ", "@", "a0", "00"]:
            self.same([((text,), to(text), (text,))], text_of(
                "edits 1", "@ 0", f"^{text}", f"~{text}", f"+{text}"))

    def test_the_last_line_of_2000(self):
        self.same(untouched(1999) + [((), DROP, ())], "edits 2000\n@ 1999\n-")

    def test_results_share_no_state(self):
        read_patch("edits 2").clear()
        self.assertEqual(read_patch("edits 2"), [SAME, SAME])

    def test_many_edits(self):
        for seed in range(400):
            rng = random.Random(seed)
            edits = some_edits(rng, rng.randrange(12), ["", "@ 0", "-", "~", "^a", "+ b", " "])
            self.assertEqual(read_patch(write_patch(edits)), edits)


class Faults(NotationTest):
    def test_count_is_expected(self):
        for row in [
            "", " ", "edits", "edits ", "edits  1", "edits 1 ", " edits 1", "edit 1", "Edits 1",
            "edits 01", "edits 00", "edits -1", "edits +1", "edits 1_0", "edits x", "edits 1x",
            "edits\t1", "@ 0", "edits 2001", "edits 10000", "edits " + "9" * 60,
            "edits " + "1" * 61, "edits " + "0" * 61, "edits 1.0",
        ]:
            self.bad(1, "count is expected", row)
            self.bad(1, "count is expected", row, "@ 0", "-")

    def test_edit_is_expected(self):
        for row in [
            "", "@", "@ ", "@0", "@  0", "@ 0 ", " @ 0", "@ 00", "@ 01", "@ x", "@ -1", "@ " + "1" * 61,
            "-", "~x", "^x", "+x", "edits 1", "other", "+x0", "@@0", "  0", "0", "000",
        ]:
            self.bad(2, "edit is expected", "edits 1", row)
            self.bad(2, "edit is expected", "edits 1", row, "-")

    def test_index_is_not_ascending(self):
        self.bad(4, "index is not ascending", "edits 3", "@ 1", "-", "@ 1", "-")
        self.bad(4, "index is not ascending", "edits 3", "@ 1", "-", "@ 0", "-")
        self.bad(6, "index is not ascending", "edits 3", "@ 0", "-", "@ 2", "-", "@ 1")
        self.bad(4, "index is not ascending", "edits 3", "@ 1", "-", "@ 0")

    def test_index_is_not_in_the_list(self):
        self.bad(2, "index is not in the list", "edits 0", "@ 0")
        self.bad(2, "index is not in the list", "edits 3", "@ 3", "-")
        self.bad(2, "index is not in the list", "edits 3", "@ " + "1" * 60)
        self.bad(4, "index is not in the list", "edits 3", "@ 1", "-", "@ 3")
        self.bad(4, "index is not in the list", "edits 3", "@ 1", "-", "@ " + "9" * 60, "other")

    def test_not_ascending_comes_before_not_in_the_list(self):
        # An index that is read is in the list, so that one that is not greater is in it, too.
        self.bad(4, "index is not ascending", "edits 1", "@ 0", "-", "@ 0")
        self.bad(2, "index is not in the list", "edits 1", "@ 1")

    def test_nothing_is_edited(self):
        self.bad(3, "nothing is edited", "edits 3", "@ 0", "@ 1")
        self.bad(3, "nothing is edited", "edits 3", "@ 0", "@ 1", "-")
        self.bad(5, "nothing is edited", "edits 3", "@ 0", "+x", "@ 1", "@ 2")

    def test_nothing_is_edited_comes_before_faults_of_the_index(self):
        self.bad(3, "nothing is edited", "edits 3", "@ 1", "@ 1")
        self.bad(3, "nothing is edited", "edits 3", "@ 1", "@ 0")
        self.bad(3, "nothing is edited", "edits 3", "@ 1", "@ 3")
        self.bad(3, "nothing is edited", "edits 3", "@ 1", "@ " + "1" * 60)

    def test_the_text_ends_behind_an_index(self):
        self.bad(2, "nothing is edited", "edits 3", "@ 0")
        self.bad(4, "nothing is edited", "edits 3", "@ 0", "-", "@ 2")

    def test_order_is_wrong(self):
        for before, row in [
            (["-"], "^a"), (["~a"], "^a"), (["+a"], "^a"), (["^a", "-"], "^"), (["-", "+a"], "^a"),
            (["-"], "-"), (["~a"], "-"), (["+a"], "-"), (["~a", "+b"], "-"), (["^a", "+b"], "-"),
            (["-"], "~a"), (["~a"], "~a"), (["+a"], "~"), (["-", "+a", "+b"], "~"),
        ]:
            self.bad(3 + len(before), "order is wrong", "edits 1", "@ 0", *before, row)
            self.bad(5 + len(before), "order is wrong", "edits 2", "@ 0", "-", "@ 1", *before, row)

    def test_each_edit_has_an_order_of_its_own(self):
        self.same([((), DROP, ("b",)), (("c",), to("d"), ()), ((), DROP, ())],
                  "edits 3\n@ 0\n-\n+b\n@ 1\n^c\n~d\n@ 2\n-")

    def test_line_is_not_known(self):
        for row in [
            "", " ", "other", "-x", "- ", "--", " -", "@", "@ ", "@x", "@ x", "@ 01", "@0", "@  1",
            "@ " + "1" * 61, "edits 1", "<x>", " +a", "@ 1 ", "-x1", "@@1", "  1", "1", "001",
        ]:
            for before in [[], ["-"], ["~a"], ["^a"], ["+a"]]:
                self.bad(3 + len(before), "line is not known", "edits 3", "@ 0", *before, row)
                self.bad(3 + len(before), "line is not known", "edits 3", "@ 0", *before, row, "-")

    def test_a_text_that_ends_with_a_newline(self):
        self.bad(2, "edit is expected", "edits 1", "")
        self.bad(3, "line is not known", "edits 1", "@ 0", "")
        self.bad(4, "line is not known", "edits 1", "@ 0", "-", "")

    def test_the_first_bad_line(self):
        self.bad(3, "line is not known", "edits 1", "@ 0", "?", "@ 0")
        self.bad(4, "order is wrong", "edits 2", "@ 0", "+a", "-", "@ 0")
        self.bad(1, "count is expected", "edits", "?")
