"""Point 63: a document whose program is edited by several authors."""

from tests.made import documents, some_edits
from tests.support import DROP, SAME, WeftTest, ahead, behind, outcome, text_of, to
from weft.desk import Desk
from weft.errors import (
    Apart, BadDocument, BadPlace, Clash, Missing, NoPiece, NoVersion, Ring, TooLong, Unfit,
)
from weft.fates import edited, untouched
from weft.lines import read, write
from weft.mapping import apply, program_fates
from weft.patches import moved
from weft.tangling import tangle, texts_of

GONE = ((), DROP, ())
TEXT = text_of(
    "p",          # 0
    "= a",        # 1
    "|1",         # 2
    "|  <b>",     # 3
    "|2",         # 4
    "= b",        # 5
    "|x",         # 6
)
# The program is 1, two spaces and x, 2.


def shown(desk):
    """Return all that a desk tells."""
    return (desk.version(), desk.document(), desk.program(), desk.since(0))


class DeskTest(WeftTest):
    def check(self, desk, version, document, program):
        self.assertEqual(desk.version(), version)
        self.assertEqual(write(desk.document()), document)
        self.assertEqual(desk.program(), program)

    def refused(self, error, attributes, desk, *arguments):
        """Check that edits are refused, and that the desk stays as it is."""
        before = shown(desk)
        self.assert_raises(error, attributes, desk.submit, *arguments)
        self.assertEqual(shown(desk), before)


class Making(DeskTest):
    def test_new_desk(self):
        desk = Desk(TEXT, "a")
        self.check(desk, 0, TEXT, ["1", "  x", "2"])
        self.assertEqual(desk.since(0), [])
        self.assertEqual(Desk(TEXT, "b").program(), ["x"])
        self.assertIs(type(desk.document()), tuple)

    def test_errors(self):
        for text, error, attributes in [
            ("= a\n|<none>\n=b", BadDocument,
             {"line": 3, "column": 2, "what": "space is expected"}),
            ("= b", NoPiece, {"name": "a"}),
            ("= a\n|<none>", Missing, {"line": 1, "name": "none"}),
            ("= a\n|<a>", Ring, {"names": ("a",)}),
            (text_of("= a", *["|x"] * 2001), TooLong, {}),
        ]:
            self.assert_raises(error, attributes, Desk, text, "a")


class Submitting(DeskTest):
    def test_edits_of_the_newest_version(self):
        desk = Desk(TEXT, "a")
        self.assertEqual(desk.submit("ann", 0, [ahead("0"), ((), to("  y"), ("  z",)), SAME]), 1)
        self.check(desk, 1, "p\n= a\n|0\n|1\n|  <b>\n|2\n= b\n|y\n|z",
                   ["0", "1", "  y", "  z", "2"])
        self.assertEqual(desk.submit("bob", 1, [GONE, SAME, SAME, behind("  w"), GONE]), 2)
        self.check(desk, 2, "p\n= a\n|1\n|  <b>\n= b\n|y\n|z\n|w",
                   ["1", "  y", "  z", "  w"])

    def test_edits_of_older_versions_are_moved(self):
        desk = Desk(TEXT, "a")
        desk.submit("ann", 0, [behind("3", "4"), SAME, SAME])
        desk.submit("bob", 1, [SAME, SAME, SAME, SAME, GONE])
        self.assertEqual(desk.submit("cas", 0, [behind("5"), ((), to("  y"), ()), SAME]), 3)
        self.check(desk, 3, "p\n= a\n|1\n|3\n|4\n|5\n|  <b>\n= b\n|y",
                   ["1", "3", "4", "5", "  y"])
        self.assertEqual(desk.submit("dan", 1, [ahead("0"), SAME, GONE, SAME, SAME]), 4)
        self.check(desk, 4, "p\n= a\n|0\n|1\n|3\n|5\n|  <b>\n= b\n|y",
                   ["0", "1", "3", "5", "  y"])

    def test_the_author_is_not_the_first_hand(self):
        desk = Desk("= a\n|x", "a")
        desk.submit("zed", 0, [(("1",), ("keep",), ("2",))])
        desk.submit("ann", 0, [(("3",), ("keep",), ("4",))])
        self.assertEqual(desk.program(), ["1", "3", "x", "2", "4"])
        desk.submit("ann", 0, [(("5",), ("keep",), ("6",))])
        self.assertEqual(desk.program(), ["1", "3", "5", "x", "2", "4", "6"])

    def test_edits_alike_are_made_once(self):
        desk = Desk(TEXT, "a")
        edits = [((), to("3"), ()), SAME, GONE]
        desk.submit("ann", 0, edits)
        self.assertEqual(desk.submit("bob", 0, edits), 2)
        self.check(desk, 2, "p\n= a\n|3\n|  <b>\n= b\n|x", ["3", "  x"])
        self.assertEqual(desk.since(1), [("bob", untouched(2))])

    def test_an_author_is_moved_past_own_edits_too(self):
        desk = Desk("= a\n|x", "a")
        desk.submit("ann", 0, [behind("1")])
        desk.submit("ann", 0, [((), to("y"), ())])
        self.refused(Clash, {"at": 0}, desk, "ann", 0, [GONE])
        self.assertEqual(desk.program(), ["y", "1"])

    def test_untouched_edits_are_accepted(self):
        desk = Desk(TEXT, "a")
        self.assertEqual(desk.submit("ann", 0, untouched(3)), 1)
        self.check(desk, 1, TEXT, ["1", "  x", "2"])
        self.assertEqual(desk.since(0), [("ann", untouched(3))])

    def test_a_program_without_lines(self):
        desk = Desk("= a", "a")
        self.assertEqual(desk.submit("ann", 0, []), 1)
        self.check(desk, 1, "= a", [])


class Refusing(DeskTest):
    def test_no_version(self):
        desk = Desk(TEXT, "a")
        for version in [-1, 1, 2, -10 ** 70, 10 ** 70]:
            self.refused(NoVersion, {"version": version}, desk, "ann", version, untouched(3))
            self.assert_raises(NoVersion, {"version": version}, desk.since, version)
        desk.submit("ann", 0, untouched(3))
        for version in [-1, 2]:
            # It comes before all else that is wrong.
            self.refused(NoVersion, {"version": version}, desk, "ann", version,
                         [behind("<x>"), ahead("\n"), SAME])
            self.assert_raises(NoVersion, {"version": version}, desk.since, version)

    def test_clash(self):
        desk = Desk(TEXT, "a")
        desk.submit("ann", 0, [((), to("3"), ()), SAME, GONE])
        for edits, at in [
            ([((), to("4"), ()), SAME, SAME], 0), ([GONE, SAME, SAME], 0),
            ([SAME, SAME, ((), to("5"), ())], 2),
            ([((), to("3"), ()), behind("<x>"), ((), to("\n"), ())], 2),
        ]:
            self.refused(Clash, {"at": at}, desk, "bob", 0, edits)

    def test_clash_with_later_edits_is_told_at_their_line(self):
        desk = Desk(TEXT, "a")
        desk.submit("ann", 0, [ahead("0"), SAME, SAME])
        desk.submit("ann", 1, [SAME, SAME, SAME, GONE])
        self.refused(Clash, {"at": 3}, desk, "bob", 0, [SAME, SAME, ((), to("4"), ())])

    def test_bad_place(self):
        desk = Desk("= a\n|x", "a")
        desk.submit("ann", 0, [GONE])
        self.refused(BadPlace, {}, desk, "bob", 0, [behind("y")])
        self.refused(BadPlace, {}, desk, "bob", 0, [(("y",), DROP, ())])
        self.assertEqual(desk.submit("bob", 0, [GONE]), 2)

    def test_unfit(self):
        desk = Desk(TEXT, "a")
        desk.submit("ann", 0, [behind("3"), SAME, SAME])
        for at, what, edit in [
            (2, "indent", behind("y")), (2, "blank", behind("  ")),
            (2, "reference", ((), to("  <x>"), ())),
        ]:
            # The index is that of the newest version.
            self.refused(Unfit, {"at": at, "what": what}, desk, "bob", 0, [SAME, edit, SAME])
        self.refused(Unfit, {"at": 3, "what": "place"}, desk, "bob", 1,
                     [SAME, SAME, SAME, ahead("y")])
        # When they are moved, texts ahead of a line come behind the line before it.
        self.refused(Unfit, {"at": 2, "what": "indent"}, desk, "bob", 0, [SAME, SAME, ahead("y")])

    def test_apart(self):
        desk = Desk("= a\n|<b>\n|<b>\n= b\n|x", "a")
        self.refused(Apart, {"at": 1, "other": 0}, desk, "ann", 0, [behind("y"), SAME])
        desk.submit("ann", 0, [behind("y")] * 2)
        self.refused(Apart, {"at": 2, "other": 0}, desk, "bob", 0, [SAME, GONE])
        self.assertEqual(desk.submit("bob", 0, [GONE, GONE]), 2)
        self.assertEqual(desk.program(), ["y", "y"])

    def test_too_long(self):
        desk = Desk("= a\n|x", "a")
        self.refused(TooLong, {}, desk, "ann", 0, [behind(*["y"] * 2000)])
        desk.submit("ann", 0, [behind(*["y"] * 1999)])
        self.refused(TooLong, {}, desk, "bob", 0, [behind("z")])
        self.assertEqual(desk.submit("bob", 0, [GONE]), 2)

    def test_edits_that_were_refused_are_none(self):
        desk = Desk(TEXT, "a")
        self.refused(Unfit, {"at": 0, "what": "reference"}, desk, "ann", 0,
                     [behind("<x>"), SAME, SAME])
        self.assertEqual(desk.submit("ann", 0, [behind("3"), SAME, SAME]), 1)
        self.assertEqual(desk.since(0), [("ann", [behind("3"), SAME, SAME])])


class Since(DeskTest):
    def test_each_version(self):
        desk = Desk(TEXT, "a")
        desk.submit("ann", 0, [behind("3"), SAME, SAME])
        desk.submit("bob", 0, [SAME, ((), to("  y"), ()), SAME])
        desk.submit("ann", 0, [behind("4"), SAME, SAME])
        accepted = [
            ("ann", [behind("3"), SAME, SAME]),
            ("bob", [SAME, SAME, ((), to("  y"), ()), SAME]),
            ("ann", [SAME, behind("4"), SAME, SAME]),
        ]
        for version in range(4):
            self.assertEqual(desk.since(version), accepted[version:])

    def test_accepted_edits_lead_from_version_to_version(self):
        desk = Desk(TEXT, "a")
        texts = [desk.program()]
        for author, edits in [
            ("ann", [behind("3"), SAME, SAME]), ("bob", [GONE, SAME, GONE]),
            ("cas", [ahead("4"), SAME, SAME]), ("dan", untouched(3)),
        ]:
            desk.submit(author, 0, edits)
            texts.append(desk.program())
        for version, (_, edits) in enumerate(desk.since(0)):
            self.assertEqual(edited(texts[version], edits), texts[version + 1])

    def test_lists_that_are_passed_and_returned_can_be_changed(self):
        desk = Desk(TEXT, "a")
        edits = [behind("3"), SAME, SAME]
        desk.submit("ann", 0, edits)
        self.assertEqual(edits, [behind("3"), SAME, SAME])
        before = shown(desk)
        edits.clear()
        desk.program().clear()
        found = desk.since(0)
        found[0][1].clear()
        found.clear()
        self.assertEqual(shown(desk), before)
        self.assertEqual(desk.submit("bob", 0, [behind("4"), SAME, SAME]), 2)

    def test_desks_share_nothing(self):
        one = Desk(TEXT, "a")
        other = Desk(TEXT, "a")
        one.submit("ann", 0, [behind("3"), SAME, SAME])
        self.assertEqual((other.version(), other.since(0)), (0, []))


class MadeDesks(DeskTest):
    def test_each_step_is_as_the_document_tells(self):
        accepted = 0
        for rng, document in documents(True, 300):
            desk = Desk(write(document), "a")
            # All versions: the texts, and the edits accepted behind them.
            texts = [desk.program()]
            edits_behind = []
            for _ in range(6):
                version = rng.randrange(len(texts))
                edits = [edit if rng.random() < 0.4 else SAME
                         for edit in some_edits(rng, len(texts[version]), ["x", "  y", ""])]
                expected = outcome(self.steps, desk.document(), edits_behind[version:], edits)
                found = outcome(desk.submit, "ann", version, edits)
                if isinstance(found, tuple):
                    self.assertEqual(found, expected)
                    continue
                accepted += 1
                new_document, new_edits = expected
                self.assertEqual(desk.document(), new_document)
                self.assertEqual(desk.program(), edited(texts[-1], new_edits))
                self.assertEqual(desk.program(), texts_of(tangle(new_document, "a")))
                texts.append(desk.program())
                edits_behind.append(new_edits)
                self.assertEqual(found, len(edits_behind))
                self.assertEqual(desk.since(0), [("ann", own) for own in edits_behind])
                self.assertEqual(read(write(new_document)), new_document)
        self.assertGreater(accepted, 300)

    def steps(self, document, accepted, edits):
        """Return the document and the edits that submitting leads to, by the words of point 63."""
        for past in accepted:
            edits = moved(edits, past, is_first=False)
        return [apply(document, program_fates(document, "a", edits)), edits]
