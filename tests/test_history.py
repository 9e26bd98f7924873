"""Points 57 to 60: documents with all changes that were made, and taking them back."""

from tests.made import documents, some_fates
from tests.support import DROP, WeftTest, behind, outcome, text_of, to
from weft.errors import BadDocument, Held, Missing, NoChange, NoPiece, Ring, TooLong
from weft.history import History
from weft.lines import read, write
from weft.mapping import apply, program_fates
from weft.tangling import tangle

GONE = ((), DROP, ())
TEXT = text_of(
    "p",          # 0
    "= a",        # 1
    "|x",         # 2
    "|  <b>",     # 3
    "|y",         # 4
    "= b",        # 5
    "|z",         # 6
)


def changed(text):
    return ((), to(text), ())


def shown(history):
    """Return all that a history tells without being changed."""
    return (history.document(), history.log(), history.blame())


class NaiveLine:
    """A line of a history, with the lines that stand behind it, told change by change."""

    def __init__(self, line, number):
        self.line = line
        self.number = number
        self.groups = []
        # What changes did to the line, as (number, change).
        self.deeds = []


class NaiveHistory:
    """A history by the words of points 57 to 60: a tree of lines, nothing thrown away."""

    def __init__(self, document):
        self.start = [NaiveLine(line, 0) for line in document]
        self.stands = [True]

    def walk(self, lines):
        """Return all lines that are there or ever were, each before those behind it."""
        found = []
        for line in lines:
            found.append(line)
            # The lines of the newest change stand directly behind the line.
            for group in reversed(line.groups):
                found.extend(self.walk(group))
        return found

    def present(self):
        """Return a list of (line of the history, line, blame) of the present document."""
        found = []
        for line in self.walk(self.start):
            deeds = [deed for deed in line.deeds if self.stands[deed[0]]]
            if self.stands[line.number] and DROP not in [change for _, change in deeds]:
                kind = line.line[0]
                told = (kind, deeds[-1][1][1]) if deeds else line.line
                found.append((line, told, deeds[-1][0] if deeds else line.number))
        return found

    def change(self, fates):
        number = len(self.stands)
        present = self.present()
        for at, (_, change, texts) in fates.items():
            line = present[at][0]
            if change != ("keep",):
                line.deeds.append((number, change))
            kind = "prose" if line.line[0] == "prose" else "code"
            line.groups.append([NaiveLine((kind, text), number) for text in texts])
        self.stands.append(True)
        return number

    def holding(self, number):
        """Return the numbers of the later standing changes that hold a change."""
        found = []
        for line in self.walk(self.start):
            numbers = [by for by, _ in line.deeds]
            if line.number == number:
                found.extend(numbers)
                found.extend([group[0].number for group in line.groups if group])
            if (number, "text") in [(by, change[0]) for by, change in line.deeds]:
                found.extend(numbers)
        return sorted([by for by in found if by > number and self.stands[by]])

    def take_back(self, number):
        if not 1 <= number < len(self.stands) or not self.stands[number]:
            return (NoChange, {"number": number})
        holding = self.holding(number)
        if holding:
            return (Held, {"number": number, "by": holding[0]})
        self.stands[number] = False
        return None


class HistoryTest(WeftTest):
    def check(self, history, *lines):
        """Check the lines of the present document, each as (written, number to blame)."""
        document = history.document()
        self.assertIs(type(document), tuple)
        self.assertEqual(write(document), text_of(*[written for written, _ in lines]))
        self.assertEqual(history.blame(), [number for _, number in lines])

    def refused(self, error, attributes, history, number):
        """Check that a change cannot be taken back, and that nothing changes."""
        before = shown(history)
        self.assert_raises(error, attributes, history.take_back, number)
        self.assertEqual(shown(history), before)


class Changes(HistoryTest):
    def test_without_changes(self):
        history = History(TEXT)
        self.assertEqual(history.document(), read(TEXT))
        self.assertEqual(history.blame(), [0] * 7)
        self.assertEqual(history.log(), [])

    def test_bad_text(self):
        self.assert_raises(BadDocument, {"line": 2, "column": 1, "what": "code without a head"},
                           History, "p\n|x")

    def test_numbers_and_log(self):
        history = History(TEXT)
        self.assertEqual(history.change("ann", {2: GONE}), 1)
        self.assertEqual(history.change("bob", {}), 2)
        self.assertEqual(history.change("ann", {0: behind("q")}), 3)
        self.assertEqual(history.log(), [(1, "ann", True), (2, "bob", True), (3, "ann", True)])
        self.assertIsNone(history.take_back(2))
        self.assertEqual(history.log(), [(1, "ann", True), (2, "bob", False), (3, "ann", True)])
        self.assertEqual(history.change("cas", {0: GONE}), 4)
        self.assertEqual(history.log()[3:], [(4, "cas", True)])

    def test_a_change_applies_its_fates(self):
        history = History(TEXT)
        fates = {0: ((), to("q"), ("r",)), 1: behind("1"), 2: ((), DROP, ("2", "")),
                 3: behind("3"), 6: changed("4")}
        history.change("ann", fates)
        self.assertEqual(history.document(), apply(read(TEXT), fates))
        self.check(history, ("q", 1), ("r", 1), ("= a", 0), ("|1", 1), ("|2", 1), ("|", 1),
                   ("|  <b>", 0), ("|3", 1), ("|y", 0), ("= b", 0), ("|4", 1))

    def test_fates_are_of_the_present_document(self):
        history = History(TEXT)
        history.change("ann", {0: GONE, 1: behind("1", "2")})
        # The lines are = a, 1, 2, x, <b>, y, = b, z now.
        history.change("bob", {2: GONE, 3: changed("3"), 7: behind("4")})
        self.check(history, ("= a", 0), ("|1", 1), ("|3", 2), ("|  <b>", 0), ("|y", 0),
                   ("= b", 0), ("|z", 0), ("|4", 2))

    def test_order_of_the_fates_is_of_no_matter(self):
        fates = {4: behind("4"), 0: GONE, 2: ((), to("v"), ("2",))}
        one = History(TEXT)
        one.change("ann", fates)
        other = History(TEXT)
        other.change("ann", {at: fates[at] for at in sorted(fates)})
        self.assertEqual(shown(one), shown(other))

    def test_what_is_passed_and_returned_shares_nothing(self):
        history = History(TEXT)
        fates = {2: ((), DROP, ("1",))}
        history.change("ann", fates)
        self.assertEqual(fates, {2: ((), DROP, ("1",))})
        before = shown(history)
        fates.clear()
        history.log().clear()
        history.blame().append(7)
        history.program_blame("a").clear()
        self.assertEqual(shown(history), before)
        self.assertIsNone(history.take_back(1))
        self.assertEqual(history.document(), read(TEXT))

    def test_histories_share_nothing(self):
        one = History(TEXT)
        other = History(TEXT)
        one.change("ann", {2: GONE})
        self.assertEqual(other.log(), [])
        self.assertEqual(other.document(), read(TEXT))

    def test_a_document_without_lines(self):
        history = History("p")
        history.change("ann", {0: GONE})
        self.assertEqual((history.document(), history.blame()), ((), []))
        history.take_back(1)
        self.check(history, ("p", 0))


class Order(HistoryTest):
    def test_later_lines_stand_ahead_of_earlier_ones(self):
        history = History("= a\n|x\n|y")
        history.change("ann", {1: behind("1", "2")})
        history.change("bob", {1: behind("3", "4")})
        history.change("ann", {1: behind("5")})
        self.check(history, ("= a", 0), ("|x", 0), ("|5", 3), ("|3", 2), ("|4", 2), ("|1", 1),
                   ("|2", 1), ("|y", 0))

    def test_lines_behind_lines_of_a_change(self):
        history = History("= a\n|x")
        history.change("ann", {1: behind("1", "2")})
        history.change("bob", {2: behind("3"), 3: behind("4")})
        history.change("ann", {3: behind("5"), 2: behind("6"), 1: behind("7")})
        self.check(history, ("= a", 0), ("|x", 0), ("|7", 3), ("|1", 1), ("|6", 3), ("|3", 2),
                   ("|5", 3), ("|2", 1), ("|4", 2))

    def test_lines_behind_dropped_ones(self):
        history = History("= a\n|x\n|y\n|z")
        history.change("ann", {2: ((), DROP, ("1",))})
        history.change("bob", {1: behind("2")})
        history.change("ann", {3: behind("3")})
        self.check(history, ("= a", 0), ("|x", 0), ("|2", 2), ("|1", 1), ("|3", 3), ("|z", 0))
        history.change("ann", {3: GONE, 2: behind("4")})
        self.check(history, ("= a", 0), ("|x", 0), ("|2", 2), ("|4", 4), ("|3", 3), ("|z", 0))

    def test_lines_stand_ahead_of_dropped_lines_that_were_put_there_earlier(self):
        history = History("= a\n|x\n|y")
        history.change("ann", {1: behind("1", "2")})
        history.change("bob", {2: GONE, 3: GONE})
        history.change("cas", {1: behind("3")})
        self.check(history, ("= a", 0), ("|x", 0), ("|3", 3), ("|y", 0))
        history.take_back(2)
        self.check(history, ("= a", 0), ("|x", 0), ("|3", 3), ("|1", 1), ("|2", 1), ("|y", 0))

    def test_a_dropped_line_comes_back_at_its_place(self):
        history = History("= a\n|x\n|y\n|z")
        history.change("ann", {2: GONE})
        history.change("bob", {1: behind("1")})
        history.change("cas", {2: behind("2"), 0: behind("0")})
        self.check(history, ("= a", 0), ("|0", 3), ("|x", 0), ("|1", 2), ("|2", 3), ("|z", 0))
        history.take_back(1)
        self.check(history, ("= a", 0), ("|0", 3), ("|x", 0), ("|1", 2), ("|2", 3), ("|y", 0),
                   ("|z", 0))

    def test_lines_put_behind_a_dropped_line_stay_behind_it(self):
        history = History("= a\n|x\n|y")
        history.change("ann", {1: ((), DROP, ("1",))})
        history.change("bob", {1: behind("2")})
        history.take_back(2)
        history.change("cas", {0: behind("3")})
        self.check(history, ("= a", 0), ("|3", 3), ("|1", 1), ("|y", 0))
        history.take_back(1)
        self.check(history, ("= a", 0), ("|3", 3), ("|x", 0), ("|y", 0))

    def test_prose(self):
        history = History("p\nq")
        history.change("ann", {0: ((), DROP, ("1", "2"))})
        history.change("bob", {0: behind("3")})
        self.check(history, ("1", 1), ("3", 2), ("2", 1), ("q", 0))


class Texts(HistoryTest):
    def test_several_changes_of_one_line(self):
        history = History("= a\n|x")
        history.change("ann", {1: changed("1")})
        history.change("bob", {1: changed("2")})
        history.change("ann", {1: changed("3")})
        self.check(history, ("= a", 0), ("|3", 3))
        history.take_back(3)
        self.check(history, ("= a", 0), ("|2", 2))
        history.change("cas", {1: changed("1")})
        self.check(history, ("= a", 0), ("|1", 4))
        history.take_back(4)
        history.take_back(2)
        self.check(history, ("= a", 0), ("|1", 1))
        history.take_back(1)
        self.check(history, ("= a", 0), ("|x", 0))

    def test_text_of_a_line_that_a_change_put_in(self):
        history = History("p")
        history.change("ann", {0: behind("1")})
        history.change("bob", {1: changed("2")})
        self.check(history, ("p", 0), ("2", 2))
        history.take_back(2)
        self.check(history, ("p", 0), ("1", 1))

    def test_text_comes_back_with_a_dropped_line(self):
        history = History("p\nq")
        history.change("ann", {0: changed("1")})
        history.change("bob", {0: GONE})
        self.check(history, ("q", 0))
        history.take_back(2)
        self.check(history, ("1", 1), ("q", 0))

    def test_lines_behind_do_not_change_the_blame(self):
        history = History("p\nq")
        history.change("ann", {0: changed("1")})
        history.change("bob", {0: behind("2")})
        self.check(history, ("1", 1), ("2", 2), ("q", 0))

    def test_a_text_that_is_given_though_it_is_there(self):
        history = History("p")
        history.change("ann", {0: changed("p")})
        self.check(history, ("p", 1))


class TakingBack(HistoryTest):
    def test_lines_texts_and_drops_come_back(self):
        history = History(TEXT)
        history.change("ann", {0: changed("q"), 1: behind("1", "2"), 2: GONE,
                               4: ((), to("v"), ("3",))})
        history.change("bob", {8: ((), DROP, ("4",))})
        self.assertIsNone(history.take_back(1))
        self.check(history, ("p", 0), ("= a", 0), ("|x", 0), ("|  <b>", 0), ("|y", 0),
                   ("= b", 0), ("|4", 2))
        history.take_back(2)
        self.assertEqual(history.document(), read(TEXT))
        self.assertEqual(history.blame(), [0] * 7)

    def test_no_change(self):
        history = History(TEXT)
        for number in [-1, 0, 1, 10 ** 70]:
            self.refused(NoChange, {"number": number}, history, number)
        history.change("ann", {2: GONE})
        history.change("ann", {0: GONE})
        for number in [-2, -1, 0, 3]:
            self.refused(NoChange, {"number": number}, history, number)
        history.take_back(1)
        self.refused(NoChange, {"number": 1}, history, 1)
        history.take_back(2)
        self.refused(NoChange, {"number": 2}, history, 2)
        history.change("ann", {2: GONE})
        self.refused(NoChange, {"number": 1}, history, 1)

    def test_changes_that_are_taken_back_stay_so(self):
        history = History("= a\n|x")
        history.change("ann", {1: ((), to("1"), ("2",))})
        history.take_back(1)
        history.change("bob", {1: ((), to("3"), ("4",))})
        self.check(history, ("= a", 0), ("|3", 2), ("|4", 2))
        history.take_back(2)
        self.check(history, ("= a", 0), ("|x", 0))

    def test_held_by_what_is_done_to_lines_that_were_put_in(self):
        for fate in [changed("3"), GONE, behind("3"), ((), DROP, ("3",)), ((), to("3"), ("4",))]:
            for at in [2, 3]:
                history = History("= a\n|x")
                history.change("ann", {1: behind("1", "2")})
                history.change("bob", {0: behind("0")})
                history.change("bob", {at + 1: fate})
                self.refused(Held, {"number": 1, "by": 3}, history, 1)
                history.take_back(2)
                self.refused(Held, {"number": 1, "by": 3}, history, 1)
                history.take_back(3)
                self.assertIsNone(history.take_back(1))
                self.check(history, ("= a", 0), ("|x", 0))

    def test_held_by_what_is_done_to_changed_texts(self):
        for fate in [changed("2"), changed("1"), GONE, ((), DROP, ("2",)), ((), to("2"), ("3",))]:
            history = History("= a\n|x")
            history.change("ann", {1: changed("1")})
            history.change("bob", {1: fate})
            self.refused(Held, {"number": 1, "by": 2}, history, 1)
            history.take_back(2)
            self.assertIsNone(history.take_back(1))
            self.check(history, ("= a", 0), ("|x", 0))

    def test_lines_behind_a_changed_text_hold_nothing(self):
        history = History("= a\n|x")
        history.change("ann", {1: changed("1")})
        history.change("bob", {1: behind("2")})
        history.take_back(1)
        self.check(history, ("= a", 0), ("|x", 0), ("|2", 2))

    def test_changes_of_a_line_that_got_lines_behind_hold_nothing(self):
        for fate in [changed("2"), GONE, behind("2")]:
            history = History("= a\n|x")
            history.change("ann", {1: behind("1")})
            history.change("bob", {1: fate})
            history.take_back(1)
            one = History("= a\n|x")
            one.change("bob", {1: fate})
            self.assertEqual(history.document(), one.document())

    def test_what_stands_beside_a_dropped_line_holds_nothing(self):
        history = History("= a\n|x\n|y")
        history.change("ann", {1: GONE})
        history.change("bob", {0: behind("1"), 1: ((), to("2"), ("3",))})
        history.take_back(1)
        self.check(history, ("= a", 0), ("|1", 2), ("|x", 0), ("|2", 2), ("|3", 2))

    def test_the_first_later_standing_change_is_told(self):
        history = History("= a\n|x")
        history.change("ann", {1: ((), to("1"), ("2",))})
        history.change("bob", {2: behind("3")})
        history.change("cas", {1: changed("4")})
        history.change("dan", {2: changed("5")})
        self.refused(Held, {"number": 1, "by": 2}, history, 1)
        history.take_back(2)
        self.refused(Held, {"number": 1, "by": 3}, history, 1)
        history.take_back(3)
        self.refused(Held, {"number": 1, "by": 4}, history, 1)
        history.take_back(4)
        self.assertIsNone(history.take_back(1))

    def test_earlier_changes_hold_nothing(self):
        history = History("= a\n|x")
        history.change("ann", {1: changed("1")})
        history.change("bob", {1: changed("2")})
        self.assertIsNone(history.take_back(2))
        self.check(history, ("= a", 0), ("|1", 1))

    def test_a_change_without_fates_is_never_held(self):
        history = History("= a\n|x")
        history.change("ann", {})
        history.change("bob", {1: ((), DROP, ("1",))})
        self.assertIsNone(history.take_back(1))


class ProgramBlame(HistoryTest):
    def test_numbers_of_the_document_lines(self):
        history = History(TEXT)
        self.assertEqual(history.program_blame("a"), [0, 0, 0])
        history.change("ann", {6: ((), to("w"), ("1",))})
        history.change("bob", {3: behind("2"), 6: changed("v")})
        history.change("cas", {2: GONE})
        # The program is v 1 2 y.
        self.assertEqual(history.program_blame("a"), [2, 1, 2, 0])
        self.assertEqual(history.program_blame("b"), [2, 1])
        history.take_back(2)
        self.assertEqual(history.program_blame("a"), [1, 1, 0])

    def test_a_line_that_comes_out_several_times(self):
        history = History("= a\n|<b>\n|<b>\n= b\n|x")
        history.change("ann", {4: behind("y")})
        self.assertEqual(history.program_blame("a"), [0, 1, 0, 1])

    def test_errors_of_tangle(self):
        for text, root, error, attributes in [
            (TEXT, "none", NoPiece, {"name": "none"}),
            ("= a\n|<none>", "a", Missing, {"line": 1, "name": "none"}),
            ("= a\n|<a>", "a", Ring, {"names": ("a",)}),
            (text_of("= a", *["|x"] * 2001), "a", TooLong, {}),
        ]:
            self.assert_raises(error, attributes, History(text).program_blame, root)

    def test_edits_of_the_program(self):
        history = History(TEXT)
        edits = [((), ("keep",), ()), ((), to("  w"), ("  1",)), GONE]
        history.change("ann", program_fates(history.document(), "a", edits))
        self.check(history, ("p", 0), ("= a", 0), ("|x", 0), ("|  <b>", 0), ("= b", 0),
                   ("|w", 1), ("|1", 1))
        self.assertEqual(history.program_blame("a"), [0, 1, 1])


class MadeHistories(HistoryTest):
    def test_all_is_as_in_a_history_that_throws_nothing_away(self):
        held = 0
        taken_back = 0
        for rng, document in documents(False, 400):
            history = History(write(document))
            naive = NaiveHistory(document)
            for _ in range(rng.randrange(1, 12)):
                if rng.random() < 0.6:
                    fates = some_fates(rng, history.document())
                    expected = apply(history.document(), fates)
                    number = history.change("ann", fates)
                    self.assertEqual(number, naive.change(fates))
                    self.assertEqual(history.document(), expected)
                else:
                    number = rng.randrange(len(naive.stands) + 1)
                    expected = naive.take_back(number)
                    self.assertEqual(outcome(history.take_back, number), expected)
                    held += expected is not None and expected[0] is Held
                    taken_back += expected is None
                present = naive.present()
                self.assertEqual(history.document(), tuple([told for _, told, _ in present]))
                self.assertEqual(history.blame(), [number for _, _, number in present])
                self.assertEqual([stands for _, _, stands in history.log()], naive.stands[1:])
        self.assertGreater(held, 100)
        self.assertGreater(taken_back, 100)

    def test_taking_all_back_gives_the_start(self):
        for rng, document in documents(False, 100):
            history = History(write(document))
            for _ in range(5):
                history.change("ann", some_fates(rng, history.document()))
            for number in reversed(range(1, 6)):
                history.take_back(number)
            self.assertEqual(history.document(), document)
            self.assertEqual(history.blame(), [0] * len(document))

    def test_program_blame(self):
        for rng, document in documents(True, 100):
            history = History(write(document))
            for _ in range(3):
                history.change("ann", some_fates(rng, history.document()))
            program = tangle(history.document(), "a")
            blame = history.blame()
            self.assertEqual(history.program_blame("a"), [blame[line] for _, line, _ in program])
