"""Points 55 and 56: two hands that replace one program."""

from tests.made import CODE, documents
from tests.support import DROP, WeftTest, behind, outcome, text_of, to
from weft.differences import least_edits
from weft.errors import (
    Apart, BadPlace, Both, Missing, NoPiece, Ring, TooLong, Unfit,
)
from weft.lines import read
from weft.mapping import apply, program_fates
from weft.merging import merge
from weft.tangling import tangle, texts_of
from weft.threeways import settle, three_ways

# Lines that are unlike, so that only one row of least edits leads to most texts below.
PLAIN = read(text_of(
    "= a",        # 0
    "|1",         # 1
    "|2",         # 2
    "|3",         # 3
    "|  <b>",     # 4
    "= b",        # 5
    "|x",         # 6
))
TEXTS = ["1", "2", "3", "  x"]


def fates_of_texts(document, root, texts):
    """Return the fates to which the least edits from a program to some texts are mapped."""
    return program_fates(document, root, least_edits(texts_of(tangle(document, root)), texts))


class ThreeWays(WeftTest):
    def check(self, one, other, fates, clashes):
        before = (list(one), list(other))
        found = three_ways(PLAIN, "a", one, other)
        self.assertEqual(found, (fates, clashes))
        self.assertIs(type(found), tuple)
        self.assertEqual((one, other), before)
        # The other way round, all is the same but for the fates of the clashes.
        self.assertEqual(three_ways(PLAIN, "a", other, one), (
            fates, [(line, second, first) for line, first, second in clashes]))

    def test_no_hand(self):
        self.check(TEXTS, TEXTS, {}, [])

    def test_one_hand_alone(self):
        self.check(["1", "3", "  x"], TEXTS, {2: ((), DROP, ())}, [])
        self.check(["1", "2", "3", "  y"], TEXTS, {6: ((), to("y"), ())}, [])
        self.check(["0", "1", "2", "3", "  x"], TEXTS, {0: behind("0")}, [])

    def test_both_hands_at_unlike_lines(self):
        self.check(["1", "2", "3", "  y"], ["4", "2", "3", "  x"],
                   {1: ((), to("4"), ()), 6: ((), to("y"), ())}, [])

    def test_both_hands_alike(self):
        self.check(["1", "3", "  x", "  y"], ["1", "3", "  x", "  y"],
                   {2: ((), DROP, ()), 6: behind("y")}, [])
        self.check(["1", "3", "  x"], ["1", "3", "  y"],
                   {2: ((), DROP, ()), 6: ((), to("y"), ())}, [])

    def test_both_hands_unlike(self):
        self.check(["1", "4", "3", "  x"], ["1", "5", "3", "  x"], {},
                   [(2, ((), to("4"), ()), ((), to("5"), ()))])
        self.check(["1", "3", "  x"], ["1", "2", "5", "3", "  x"], {},
                   [(2, ((), DROP, ()), behind("5"))])

    def test_clashes_are_ascending_beside_other_fates(self):
        self.check(
            ["0", "1", "2", "6", "3", "  y"], ["9", "1", "2", "7", "3", "  z"], {},
            [(0, behind("0"), behind("9")), (2, behind("6"), behind("7")),
             (6, ((), to("y"), ()), ((), to("z"), ()))])
        self.check(
            ["4", "2", "3", "  y"], ["4", "5", "3", "  z"],
            {1: ((), to("4"), ()), 2: ((), to("5"), ())},
            [(6, ((), to("y"), ()), ((), to("z"), ()))])

    def test_errors_of_tangle(self):
        for root, document, error, attributes in [
            ("none", "= a\n|x", NoPiece, {"name": "none"}),
            ("a", "= a\n|<none>", Missing, {"line": 1, "name": "none"}),
            ("a", "= a\n|<a>", Ring, {"names": ("a",)}),
            ("a", text_of("= a", *["|x"] * 2001), TooLong, {}),
        ]:
            self.assert_raises(error, attributes, three_ways, read(document), root, ["\n"], [])

    def test_errors_of_the_first_list_come_first(self):
        document = read("= a\n|1\n|  <b>\n|  <b>\n= b\n|x")
        bad = {
            "reference": (["<b>", "  x", "  x"], Unfit, {"at": 0, "what": "reference"}),
            "indent": (["1", "y", "y"], Unfit, {"at": 1, "what": "indent"}),
            "apart": (["1", "  x", "  y"], Apart, {"at": 2, "other": 1}),
            "long": (["1"] * 2001 + ["  x", "  x"], TooLong, {}),
        }
        for _, (texts, error, attributes) in bad.items():
            for _, (others, _, _) in bad.items():
                self.assert_raises(error, attributes, three_ways, document, "a", texts, others)
            same = ["1", "  x", "  x"]
            self.assert_raises(error, attributes, three_ways, document, "a", same, texts)

    def test_a_program_without_lines(self):
        document = read("= a")
        self.assertEqual(three_ways(document, "a", [], []), ({}, []))
        self.assert_raises(BadPlace, {}, three_ways, document, "a", ["x"], [])
        self.assert_raises(BadPlace, {}, three_ways, document, "a", [], ["x"])

    def test_dropping_all_lines(self):
        drop = ((), DROP, ())
        self.check([], TEXTS, {1: drop, 2: drop, 3: drop, 6: drop}, [])

    def test_made_documents(self):
        clashing = 0
        for rng, document in documents(True):
            root = document[[line[0] for line in document].index("head")][1]
            texts = texts_of(tangle(document, root))
            hands = [[rng.choice([text, text, rng.choice(CODE)]) for text in texts
                      if rng.random() < 0.8] for _ in range(2)]
            found = outcome(three_ways, document, root, *hands)
            wanted = [outcome(fates_of_texts, document, root, hand) for hand in hands]
            wrong = [one for one in wanted if not isinstance(one, dict)]
            if wrong:
                self.assertEqual(found, wrong[0])
                continue
            fates, clashes = found
            merged = outcome(merge, *wanted)
            clashing += clashes != []
            if clashes:
                self.assertEqual(merged, (Both, {"line": clashes[0][0]}))
            else:
                self.assertEqual(fates, merged)
            for at, choice in enumerate(["one", "other"]):
                settled = settle(fates, clashes, [choice] * len(clashes))
                self.assertEqual({line: settled[line] for line in wanted[at]}, wanted[at])
                if wanted[1 - at] == {}:
                    self.assertEqual(texts_of(tangle(apply(document, settled), root)), hands[at])
        self.assertGreater(clashing, 10)


class Settle(WeftTest):
    fates = {7: behind("z")}
    clashes = [(2, behind("a"), behind("b")), (5, ((), DROP, ()), ((), to("c"), ()))]

    def check(self, choices, expected):
        fates = dict(self.fates)
        clashes = list(self.clashes)
        before = list(choices)
        found = settle(fates, clashes, choices)
        self.assertEqual(found, {**self.fates, **expected})
        self.assertEqual((fates, clashes, choices), (self.fates, self.clashes, before))
        found.clear()
        self.assertEqual(fates, self.fates)

    def test_each_choice(self):
        self.check(["one", "one"], {2: behind("a"), 5: ((), DROP, ())})
        self.check(["one", "other"], {2: behind("a"), 5: ((), to("c"), ())})
        self.check(["other", "one"], {2: behind("b"), 5: ((), DROP, ())})
        self.check(["other", "other"], {2: behind("b"), 5: ((), to("c"), ())})

    def test_no_clashes(self):
        fates = dict(self.fates)
        found = settle(fates, [], [])
        self.assertEqual(found, self.fates)
        self.assertIsNot(found, fates)
        self.assertEqual(settle({}, [], []), {})

    def test_fates_alone_are_none(self):
        self.assertEqual(settle({}, self.clashes[:1], ["other"]), {2: behind("b")})

    def test_choosing_one_hand_alone_gives_its_texts(self):
        one = ["1", "4", "3", "  y"]
        other = ["1", "5", "3", "  z"]
        fates, clashes = three_ways(PLAIN, "a", one, other)
        for choices, texts in [
            (["one", "one"], one), (["other", "other"], other),
            (["one", "other"], ["1", "4", "3", "  z"]),
        ]:
            document = apply(PLAIN, settle(fates, clashes, choices))
            self.assertEqual(texts_of(tangle(document, "a")), texts)
