"""Point 13: occurrences; and first lines."""

from tests.support import WeftTest, text_of
from weft.lines import read
from weft.places import first_lines, occurrences
from weft.tangling import tangle

DOCUMENT = read(text_of(
    "= a",         # 0
    "|<b>",        # 1
    "|x",          # 2
    "| <c>",       # 3
    "= b",         # 4
    "| <c>",       # 5
    "|y",          # 6
    "= c",         # 7
    "|z",          # 8
    "|",           # 9
    "= idle",      # 10
    "|w",          # 11
))


class Occurrences(WeftTest):
    def test_lines_that_come_out_several_times(self):
        self.assertEqual(
            occurrences(tangle(DOCUMENT, "a")), {8: [0, 4], 9: [1, 5], 6: [2], 2: [3]})

    def test_lines_of_other_roots(self):
        self.assertEqual(occurrences(tangle(DOCUMENT, "b")), {8: [0], 9: [1], 6: [2]})
        self.assertEqual(occurrences(tangle(DOCUMENT, "idle")), {11: [0]})

    def test_program_without_lines(self):
        self.assertEqual(occurrences([]), {})

    def test_the_program_stays_as_it_is(self):
        program = tangle(DOCUMENT, "a")
        found = occurrences(program)
        found[8].append(9)
        self.assertEqual(program, tangle(DOCUMENT, "a"))
        self.assertEqual(occurrences(program)[8], [0, 4])


class FirstLines(WeftTest):
    def test_code_and_references_behind_heads(self):
        self.assertEqual(first_lines(DOCUMENT), [1, 5, 8, 11])

    def test_heads_without_lines(self):
        self.assertEqual(first_lines(read("p\n= a\n= b\n\n= b\n|\n|x\n= c\np\n= c\n|<a>")), [5, 10])
        self.assertEqual(first_lines(read("= a")), [])
        self.assertEqual(first_lines(read("p")), [])
