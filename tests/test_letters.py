"""Point 67: the text form of letters, and their delivery."""

from tests.support import DROP, SAME, WeftTest, ahead, behind, to
from weft.copies import Copy
from weft.desk import Desk
from weft.errors import (
    Apart, BadPatch, BadPlace, Clash, NoVersion, TooLong, Unfit,
)
from weft.fates import untouched
from weft.letters import deliver, read_letter, write_letter
from weft.notation import write_patch

LETTERS = [
    (("ann", 0, []), "letter ann 0\nedits 0"),
    (("ann", 12, untouched(3)), "letter ann 12\nedits 3"),
    (("-_.9", 7, [behind("x"), ((), DROP, ())]), "letter -_.9 7\nedits 2\n@ 0\n+x\n@ 1\n-"),
    (("a" * 20, 10 ** 60 - 1, [(("a",), to(""), ("b", ""))]),
     "letter " + "a" * 20 + " " + "9" * 60 + "\nedits 1\n@ 0\n^a\n~\n+b\n+"),
]


class Writing(WeftTest):
    def test_letters(self):
        for letter, text in LETTERS:
            self.assertEqual(write_letter(letter), text)

    def test_edits_stay(self):
        edits = [behind("x")]
        write_letter(("ann", 0, edits))
        self.assertEqual(edits, [behind("x")])


class Reading(WeftTest):
    def refused(self, text, line, what):
        self.assert_raises(BadPatch, {"line": line, "what": what}, read_letter, text)

    def test_letters(self):
        for letter, text in LETTERS:
            found = read_letter(text)
            self.assertEqual(found, letter)
            self.assertIs(type(found), tuple)

    def test_a_list_of_its_own(self):
        text = LETTERS[2][1]
        read_letter(text)[2].clear()
        self.assertEqual(read_letter(text), LETTERS[2][0])

    def test_first_line_of_another_form(self):
        for first in [
            "", "letter", "letter ", "letter ann", "letter ann ", "letter  ann 0",
            "letter ann  0", " letter ann 0", "letter ann 0 ", "letter ann 0 1", "Letter ann 0",
            "letters ann 0", "letter a/b 0", "letter " + "a" * 21 + " 0", "letter ann 01",
            "letter ann 00", "letter ann -1", "letter ann +1", "letter ann x", "letter ann 1x",
            "letter ann 1_0", "letter ann " + "1" * 61, "letter ann " + "1" * 5000, "edits 0",
            "letter 0", "letter a b 0",
        ]:
            with self.subTest(first):
                self.refused(first, 1, "letter is expected")
                self.refused(first + "\nedits 0", 1, "letter is expected")
                self.refused(first + "\nnothing", 1, "letter is expected")

    def test_no_other_line(self):
        self.refused("letter ann 0", 2, "count is expected")
        self.refused("letter ann 0\n", 2, "count is expected")

    def test_faults_of_the_patch_with_the_lines_of_the_text(self):
        for rows, line, what in [
            (["edits"], 2, "count is expected"),
            (["edits 03"], 2, "count is expected"),
            (["edits 2001", "@ 0"], 2, "count is expected"),
            (["letter ann 0", "edits 0"], 2, "count is expected"),
            (["edits 1", ""], 3, "edit is expected"),
            (["edits 1", "+x"], 3, "edit is expected"),
            (["edits 2", "@ 1", "+x", "@ 1"], 5, "index is not ascending"),
            (["edits 2", "@ 1", "+x", "@ 0", "+x"], 5, "index is not ascending"),
            (["edits 2", "@ 2"], 3, "index is not in the list"),
            (["edits 2", "@ 0", "@ 1"], 4, "nothing is edited"),
            (["edits 2", "@ 0"], 3, "nothing is edited"),
            (["edits 2", "@ 0", "-", "^x"], 5, "order is wrong"),
            (["edits 2", "@ 0", "+x", "-"], 5, "order is wrong"),
            (["edits 2", "@ 0", "+x", "x"], 5, "line is not known"),
            (["edits 2", "@ 0", "+x", ""], 5, "line is not known"),
        ]:
            with self.subTest(rows):
                self.refused("\n".join(["letter ann 0"] + rows), line, what)

    def test_a_patch_is_no_letter(self):
        self.refused(write_patch(untouched(2)), 1, "letter is expected")


class Delivering(WeftTest):
    text = "= a\n|1\n|<b>\n|<b>\n= b\n|x"

    def refused(self, error, attributes, desk, text):
        before = (desk.version(), desk.document(), desk.since(0))
        self.assert_raises(error, attributes, deliver, desk, text)
        self.assertEqual((desk.version(), desk.document(), desk.since(0)), before)

    def test_letters_of_a_copy(self):
        desk = Desk(self.text, "a")
        copy = Copy("ann", desk.program(), desk.version())
        copy.edit([behind("2"), SAME, SAME])
        text = write_letter(copy.send())
        self.assertEqual(deliver(desk, text), 1)
        self.assertEqual(desk.program(), ["1", "2", "x", "x"])
        self.assertEqual(desk.since(0), [("ann", [behind("2"), SAME, SAME])])

    def test_letters_of_older_versions(self):
        desk = Desk(self.text, "a")
        self.assertEqual(deliver(desk, "letter ann 0\nedits 3\n@ 0\n+2"), 1)
        self.assertEqual(deliver(desk, "letter bob 0\nedits 3\n@ 0\n^0\n+3"), 2)
        self.assertEqual(desk.program(), ["0", "1", "2", "3", "x", "x"])

    def test_bad_patch_comes_before_the_errors_of_submit(self):
        desk = Desk(self.text, "a")
        for text, line, what in [
            ("letter ann 7", 2, "count is expected"),
            ("letter ann 7\nedits 3\n@ 3", 3, "index is not in the list"),
            ("letter ann 0\nedits 3\n@ 0\n+<x>\n+\n@ 1", 6, "nothing is edited"),
            ("letter ann 07\nedits 3", 1, "letter is expected"),
        ]:
            self.refused(BadPatch, {"line": line, "what": what}, desk, text)

    def test_errors_of_submit(self):
        desk = Desk(self.text, "a")
        deliver(desk, write_letter(("ann", 0, [((), to("2"), ()), SAME, SAME])))
        for version, edits, error, attributes in [
            (2, untouched(3), NoVersion, {"version": 2}),
            (0, [((), to("3"), ()), SAME, SAME], Clash, {"at": 0}),
            (1, [behind("<x>"), SAME, SAME], Unfit, {"at": 0, "what": "reference"}),
            (1, [SAME, behind("y"), SAME], Apart, {"at": 2, "other": 1}),
            (1, [behind(*["y"] * 2000), SAME, SAME], TooLong, {}),
        ]:
            self.refused(error, attributes, desk, write_letter(("bob", version, edits)))
        desk = Desk("= a\n|1", "a")
        deliver(desk, write_letter(("ann", 0, [((), DROP, ())])))
        self.refused(BadPlace, {}, desk, write_letter(("bob", 0, [ahead("y")])))
