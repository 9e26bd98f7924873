"""Point 16: edits of lists of texts."""

from tests.support import WeftTest
from weft.fates import edited, is_touched, untouched

KEEP = ("keep",)
DROP = ("drop",)


class Edits(WeftTest):
    def test_untouched(self):
        self.assertEqual(untouched(0), [])
        self.assertEqual(untouched(3), [((), KEEP, ()), ((), KEEP, ()), ((), KEEP, ())])

    def test_untouched_gives_new_lists(self):
        one = untouched(2)
        one[0] = ((), DROP, ())
        self.assertEqual(untouched(2), [((), KEEP, ()), ((), KEEP, ())])

    def test_is_touched(self):
        self.assertIs(is_touched(((), KEEP, ())), False)
        for edit in [
            ((), DROP, ()), ((), ("text", ""), ()), ((), ("text", "keep"), ()), (("",), KEEP, ()),
            ((), KEEP, ("",)), (("a",), DROP, ("b",)),
        ]:
            with self.subTest(edit):
                self.assertIs(is_touched(edit), True)

    def test_edited(self):
        texts = ["a", "b", "c"]
        for edits, found in [
            (untouched(3), ["a", "b", "c"]),
            ([((), DROP, ()), ((), KEEP, ()), ((), ("text", "C"), ())], ["b", "C"]),
            ([(("1", "2"), KEEP, ("3", "4")), ((), DROP, ()), ((), KEEP, ())],
             ["1", "2", "a", "3", "4", "c"]),
            ([(("1",), DROP, ("2",)), (("3",), ("text", "B"), ("4",)), (("",), KEEP, ("",))],
             ["1", "2", "3", "B", "4", "", "c", ""]),
            ([((), ("text", "a"), ()), ((), ("text", ""), ()), ((), DROP, ())], ["a", ""]),
            ([((), DROP, ())] * 3, []),
        ]:
            with self.subTest(edits):
                self.assertEqual(edited(texts, edits), found)
        self.assertEqual(texts, ["a", "b", "c"])

    def test_edited_without_texts(self):
        self.assertEqual(edited([], []), [])

    def test_edited_is_a_new_list(self):
        texts = ["a"]
        edits = untouched(1)
        edited(texts, edits).append("b")
        self.assertEqual((texts, edits), (["a"], [((), KEEP, ())]))
