"""Points 42 to 47: positions in documents, programs and woven texts."""

from tests.made import documents
from tests.support import WeftTest, text_of
from weft.lines import read, write
from weft.positions import from_program, from_woven, spans, to_program, to_woven, trace
from weft.tangling import indent_of, tangle, texts_of
from weft.weaving import weave

DOCUMENT = read(text_of(
    "p <b>",      # 0
    "= a",        # 1
    "|x",         # 2
    "|  <b>",     # 3
    "|<b>",       # 4
    "|",          # 5
    "",           # 6
    "= b",        # 7
    "| y",        # 8
    "|   <c>",    # 9
    "|",          # 10
    "= c",        # 11
    "|zz",        # 12
    "| <d>",      # 13
    "= idle",     # 14
    "|i",         # 15
    "= d",        # 16
    "|w",         # 17
))
PROGRAM = tangle(DOCUMENT, "a")
TEXTS = [
    "x",        # 0
    "   y",     # 1
    "     zz",  # 2
    "      w",  # 3
    "",         # 4
    " y",       # 5
    "   zz",    # 6
    "    w",    # 7
    "",         # 8
    "",         # 9
]


class PositionTest(WeftTest):
    def setUp(self):
        self.assertEqual(texts_of(PROGRAM), TEXTS)

    def tearDown(self):
        self.assertEqual(PROGRAM, tangle(DOCUMENT, "a"))


def positions(texts):
    return [(at, column) for at, text in enumerate(texts) for column in range(len(text) + 1)]


class FromProgram(PositionTest):
    def test_lines_of_the_root(self):
        self.assertEqual(from_program(DOCUMENT, PROGRAM, 0, 0), (2, 1))
        self.assertEqual(from_program(DOCUMENT, PROGRAM, 0, 1), (2, 2))

    def test_one_reference(self):
        found = [from_program(DOCUMENT, PROGRAM, 1, column) for column in range(5)]
        self.assertEqual(found, [(3, 1), (3, 2), (8, 1), (8, 2), (8, 3)])

    def test_indents_of_several_references(self):
        found = [from_program(DOCUMENT, PROGRAM, 2, column) for column in range(8)]
        self.assertEqual(found, [(3, 1), (3, 2), (9, 1), (9, 2), (9, 3), (12, 1), (12, 2), (12, 3)])
        found = [from_program(DOCUMENT, PROGRAM, 3, column) for column in range(8)]
        self.assertEqual(
            found, [(3, 1), (3, 2), (9, 1), (9, 2), (9, 3), (13, 1), (17, 1), (17, 2)])

    def test_references_with_the_indent_0(self):
        self.assertEqual([from_program(DOCUMENT, PROGRAM, 5, column) for column in range(3)],
                         [(8, 1), (8, 2), (8, 3)])
        self.assertEqual([from_program(DOCUMENT, PROGRAM, 7, column) for column in range(6)],
                         [(9, 1), (9, 2), (9, 3), (13, 1), (17, 1), (17, 2)])

    def test_empty_lines(self):
        self.assertEqual(from_program(DOCUMENT, PROGRAM, 4, 0), (10, 1))
        self.assertEqual(from_program(DOCUMENT, PROGRAM, 8, 0), (10, 1))
        self.assertEqual(from_program(DOCUMENT, PROGRAM, 9, 0), (5, 1))


class ToProgram(PositionTest):
    def test_each_occurrence(self):
        self.assertEqual(to_program(DOCUMENT, PROGRAM, 12, 1), [(2, 5), (6, 3)])
        self.assertEqual(to_program(DOCUMENT, PROGRAM, 12, 3), [(2, 7), (6, 5)])
        self.assertEqual(to_program(DOCUMENT, PROGRAM, 8, 2), [(1, 3), (5, 1)])
        self.assertEqual(to_program(DOCUMENT, PROGRAM, 2, 1), [(0, 0)])
        self.assertEqual(to_program(DOCUMENT, PROGRAM, 17, 2), [(3, 7), (7, 5)])

    def test_empty_lines(self):
        self.assertEqual(to_program(DOCUMENT, PROGRAM, 10, 1), [(4, 0), (8, 0)])
        self.assertEqual(to_program(DOCUMENT, PROGRAM, 5, 1), [(9, 0)])

    def test_column_0(self):
        for line in range(len(DOCUMENT)):
            self.assertEqual(to_program(DOCUMENT, PROGRAM, line, 0), [])

    def test_lines_that_do_not_come_out(self):
        self.assertEqual(to_program(DOCUMENT, PROGRAM, 15, 1), [])
        self.assertEqual(to_program(DOCUMENT, tangle(DOCUMENT, "d"), 12, 1), [])
        self.assertEqual(to_program(DOCUMENT, tangle(DOCUMENT, "idle"), 15, 1), [(0, 0)])

    def test_heads_references_and_prose(self):
        for line in [0, 1, 3, 4, 6, 7, 9, 13, 14]:
            for column in range(len(write(DOCUMENT).split("\n")[line]) + 1):
                self.assertEqual(to_program(DOCUMENT, PROGRAM, line, column), [])

    def test_there_and_back(self):
        for _, document in documents(True, 200):
            program = tangle(document, "a")
            rows = write(document).split("\n")
            leading = {}
            for at, column in positions(texts_of(program)):
                line, place = from_program(document, program, at, column)
                self.assertLessEqual(place, len(rows[line]))
                if document[line][0] == "code":
                    leading.setdefault((line, place), []).append((at, column))
                else:
                    self.assertIn(line, program[at][2])
                    self.assertEqual(rows[line][place], " ")
            for line, place in positions(rows):
                self.assertEqual(to_program(document, program, line, place),
                                 leading.get((line, place), []))


class Woven(PositionTest):
    document = read("p\n\n= a\n|xy\n|\n|  <b>\n= b\n= a\n|<c>\nq")

    def test_woven_text(self):
        self.assertEqual(texts_of(weave(self.document)), [
            "p",                  # 0
            "",                   # 1
            "[1] a",              # 2
            "    xy",             # 3
            "",                   # 4
            "      <b 2>",        # 5
            "    (goes on in 3)", # 6
            "[2] b",              # 7
            "    (used in 1)",    # 8
            "[3] a",              # 9
            "    <c ?>",          # 10
            "q",                  # 11
            "", "a: 1, 3", "b: 2",
        ])

    def check(self, line, column, found):
        self.assertEqual(to_woven(self.document, line, column), found)
        if found is not None:
            self.assertEqual(from_woven(self.document, found[0], found[1]), (line, column))

    def test_prose(self):
        self.check(0, 0, (0, 0))
        self.check(0, 1, (0, 1))
        self.check(1, 0, (1, 0))
        self.check(9, 1, (11, 1))

    def test_code(self):
        self.check(3, 0, None)
        self.check(3, 1, (3, 4))
        self.check(3, 2, (3, 5))
        self.check(3, 3, (3, 6))

    def test_empty_code(self):
        self.check(4, 0, None)
        self.check(4, 1, (4, 0))

    def test_heads(self):
        self.check(2, 0, None)
        self.check(2, 1, None)
        self.check(2, 2, (2, 4))
        self.check(2, 3, (2, 5))
        self.check(6, 2, (7, 4))
        self.check(7, 3, (9, 5))

    def test_heads_with_numbers_of_two_digits(self):
        document = read("\n".join(["= a"] * 9 + ["= name"]))
        at = texts_of(weave(document)).index("[10] name")
        self.assertEqual(to_woven(document, 9, 2), (at, 5))
        self.assertEqual(to_woven(document, 9, 6), (at, 9))
        self.assertEqual(from_woven(document, at, 5), (9, 2))
        self.assertIsNone(from_woven(document, at, 4))

    def test_references(self):
        for column in range(7):
            self.check(5, column, None)
        for column in range(5):
            self.check(8, column, None)

    def test_columns_of_the_woven_text_that_lead_nowhere(self):
        for at, columns in [(2, range(4)), (3, range(4)), (5, range(12)), (6, range(19)),
                            (7, range(4)), (8, range(16)), (10, range(10)), (12, range(1)),
                            (13, range(8)), (14, range(5))]:
            for column in columns:
                with self.subTest(at=at, column=column):
                    self.assertIsNone(from_woven(self.document, at, column))

    def test_there_and_back(self):
        for _, document in documents(False, 200):
            rows = write(document).split("\n")
            texts = texts_of(weave(document))
            there = {}
            for line, column in positions(rows):
                found = to_woven(document, line, column)
                if found is not None:
                    there[found] = (line, column)
                    self.assertLessEqual(found[1], len(texts[found[0]]))
                    self.assertEqual(texts[found[0]][found[1]:], rows[line][column:])
            for at, column in positions(texts):
                self.assertEqual(from_woven(document, at, column), there.get((at, column)))


class Trace(PositionTest):
    def test_without_references(self):
        self.assertEqual(trace(DOCUMENT, PROGRAM, 0, 0), "line 3, column 2")
        self.assertEqual(trace(DOCUMENT, PROGRAM, 0, 1), "line 3, column 3")
        self.assertEqual(trace(DOCUMENT, PROGRAM, 9, 0), "line 6, column 2")

    def test_one_reference(self):
        self.assertEqual(trace(DOCUMENT, PROGRAM, 1, 3), "line 9, column 3, by way of lines 4")
        self.assertEqual(trace(DOCUMENT, PROGRAM, 1, 0), "line 4, column 2, by way of lines 4")
        self.assertEqual(trace(DOCUMENT, PROGRAM, 8, 0), "line 11, column 2, by way of lines 5")

    def test_several_references(self):
        self.assertEqual(trace(DOCUMENT, PROGRAM, 3, 7),
                         "line 18, column 3, by way of lines 4, 10, 14")
        self.assertEqual(trace(DOCUMENT, PROGRAM, 3, 4),
                         "line 10, column 4, by way of lines 4, 10, 14")
        self.assertEqual(trace(DOCUMENT, PROGRAM, 7, 0),
                         "line 10, column 2, by way of lines 5, 10, 14")


class Spans(PositionTest):
    def check(self, start, end, *found):
        self.assertEqual(spans(DOCUMENT, PROGRAM, start, end), list(found))

    def test_one_line(self):
        self.check((0, 0), (0, 1), (2, 1, 2))
        self.check((2, 5), (2, 7), (12, 1, 3))
        self.check((2, 6), (2, 7), (12, 2, 3))
        self.check((2, 5), (2, 6), (12, 1, 2))

    def test_no_column(self):
        self.check((0, 0), (0, 0))
        self.check((0, 1), (0, 1))
        self.check((2, 6), (2, 6))
        self.check((9, 0), (9, 0))

    def test_within_an_indentation(self):
        self.check((2, 0), (2, 4))
        self.check((2, 1), (2, 5))
        self.check((2, 3), (2, 6), (12, 1, 2))
        self.check((1, 0), (1, 4), (8, 1, 3))

    def test_indentation_that_belongs_to_the_code(self):
        self.check((1, 2), (1, 3), (8, 1, 2))
        self.check((5, 0), (5, 1), (8, 1, 2))

    def test_several_lines(self):
        self.check((0, 0), (3, 7), (2, 1, 2), (8, 1, 3), (12, 1, 3), (17, 1, 2))
        self.check((1, 3), (2, 6), (8, 2, 3), (12, 1, 2))
        self.check((0, 1), (2, 3), (8, 1, 3))
        self.check((1, 4), (2, 7), (12, 1, 3))
        self.check((1, 4), (2, 5))

    def test_lines_that_come_out_several_times(self):
        self.check((0, 0), (9, 0), (2, 1, 2), (8, 1, 3), (12, 1, 3), (17, 1, 2),
                   (8, 1, 3), (12, 1, 3), (17, 1, 2))

    def test_empty_lines(self):
        self.check((3, 7), (5, 0))
        self.check((3, 6), (5, 2), (17, 1, 2), (8, 1, 3))
        self.check((8, 0), (9, 0))

    def test_spans_have_the_characters_that_are_no_indentation(self):
        for _, document in documents(True, 100):
            program = tangle(document, "a")
            rows = write(document).split("\n")
            places = positions(texts_of(program))
            for at, start in enumerate(places):
                for end in places[at::3]:
                    told = "".join([rows[line][first:last]
                                    for line, first, last in spans(document, program, start, end)])
                    self.assertEqual(told, characters(document, program, start, end))


def characters(document, program, start, end):
    """Return the characters of a span one by one, without those of indentations."""
    found = ""
    for at, (text, _, path) in enumerate(program):
        for column in range(indent_of(document, path), len(text)):
            if start <= (at, column) < end:
                found += text[column]
    return found
