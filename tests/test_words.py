"""Points 68 and 69: the words of the code, and other names for them."""

import re

from tests.made import documents
from tests.support import WeftTest, outcome, text_of
from weft.building import roots_of
from weft.errors import Taken, Unfit
from weft.lines import is_code, read, write
from weft.pieces import closure
from weft.tangling import tangle, texts_of
from weft.words import find_word, is_word, rename_word, word_index, words_of

WORD = re.compile("[A-Za-z0-9_]+")
DOCUMENT = read(text_of(
    "one two",        # 0
    "= one",          # 1
    "|one = two + 1", # 2
    "|  <two>",       # 3
    "|",              # 4
    "two",            # 5
    "= two",          # 6
    "| _x1(one,one)", # 7
    "",               # 8
    "= one",          # 9
    "|two-one",       # 10
))


class Words(WeftTest):
    def test_is_word(self):
        for text in ["a", "Z", "0", "_", "__", "a_1", "9z", "x" * 1000]:
            self.assertIs(is_word(text), True, text)
        for text in ["", " ", "a b", "a-b", "a.b", " a", "a ", "a\n", "\n", "<a>", "a'", "~"]:
            self.assertIs(is_word(text), False, text)

    def test_words_of(self):
        for text, found in [
            ("", []),
            ("   ", []),
            ("word", [(0, "word")]),
            (" word", [(1, "word")]),
            ("word ", [(0, "word")]),
            ("a b", [(0, "a"), (2, "b")]),
            ("a  a", [(0, "a"), (3, "a")]),
            ("if (x_1<=10) { y[2]=Z; }",
             [(0, "if"), (4, "x_1"), (9, "10"), (15, "y"), (17, "2"), (20, "Z")]),
            ("-a-b.c_", [(1, "a"), (3, "b"), (5, "c_")]),
            ("a\nb", [(0, "a"), (2, "b")]),
            ("\n_", [(1, "_")]),
        ]:
            self.assertEqual(words_of(text), found)

    def test_runs_are_longest(self):
        for _, document in documents(False, 100):
            text = write(document)
            self.assertEqual(words_of(text), [
                (found.start(), found.group()) for found in WORD.finditer(text)])

    def test_each_sign(self):
        for number in [10, *range(32, 127)]:
            sign = chr(number)
            expected = WORD.fullmatch(sign) is not None
            self.assertIs(is_word(sign), expected)
            self.assertEqual(words_of(f"a{sign}b") == [(0, f"a{sign}b")], expected)


class Finding(WeftTest):
    def test_positions(self):
        self.assertEqual(find_word(DOCUMENT, "one"), [(2, 1), (7, 6), (7, 10), (10, 5)])
        self.assertEqual(find_word(DOCUMENT, "two"), [(2, 7), (10, 1)])
        self.assertEqual(find_word(DOCUMENT, "_x1"), [(7, 2)])
        self.assertEqual(find_word(DOCUMENT, "1"), [(2, 13)])

    def test_parts_of_words_are_none(self):
        for word in ["x1", "on", "ne", "_", "x"]:
            self.assertEqual(find_word(DOCUMENT, word), [])

    def test_words_elsewhere_are_none_of_the_code(self):
        document = read("word\n= word\n|  <word>\n|<word> ")
        self.assertEqual(find_word(document, "word"), [(3, 2)])
        self.assertEqual(find_word(read("word\n= word\n|  <word>"), "word"), [])

    def test_positions_are_those_of_the_written_lines(self):
        rows = write(DOCUMENT).split("\n")
        for line, column in find_word(DOCUMENT, "one"):
            self.assertEqual(rows[line][column:column + 3], "one")

    def test_code_that_no_root_needs_counts(self):
        self.assertEqual(find_word(read("= a\n|<a>\n|x"), "x"), [(2, 1)])

    def test_index(self):
        self.assertEqual(word_index(DOCUMENT), [
            ("1", [1]), ("_x1", [2]), ("one", [1, 2, 3]), ("two", [1, 3])])

    def test_index_of_no_words(self):
        for text in ["", "word", "= word", "= a\n|\n| -\n|<b>\n= b"]:
            self.assertEqual(word_index(read(text)), [])

    def test_index_is_in_ascending_order_of_the_words(self):
        document = read("= a\n|b B _ 10 9 a aa Z\n= c\n|9\n= a\n|a a\n|a b")
        self.assertEqual(word_index(document), [
            ("10", [1]), ("9", [1, 2]), ("B", [1]), ("Z", [1]), ("_", [1]), ("a", [1, 3]),
            ("aa", [1]), ("b", [1, 3])])

    def test_lists_of_its_own(self):
        word_index(DOCUMENT)[2][1].clear()
        self.assertEqual(word_index(DOCUMENT)[2], ("one", [1, 2, 3]))

    def test_made_documents(self):
        for _, document in documents(False, 200):
            code = [(at, line[1]) for at, line in enumerate(document) if line[0] == "code"]
            found = sorted([(match.group(), (at, match.start() + 1))
                            for at, text in code for match in WORD.finditer(text)])
            self.assertEqual([word for word, _ in word_index(document)],
                             sorted(set([word for word, _ in found])))
            heads = [line[0] for line in document]
            for word, numbers in word_index(document):
                places = [place for own, place in found if own == word]
                self.assertEqual(find_word(document, word), places)
                self.assertEqual(numbers, sorted(set([
                    heads[:at].count("head") for at, _ in places])))


class Renaming(WeftTest):
    def check(self, document, old, new, *lines):
        self.assertEqual(write(rename_word(document, old, new)), text_of(*lines))

    def test_words_of_the_code_alone(self):
        self.check(DOCUMENT, "one", "o", "one two", "= one", "|o = two + 1", "|  <two>", "|",
                   "two", "= two", "| _x1(o,o)", "", "= one", "|two-o")
        self.check(DOCUMENT, "two", "seven_7", "one two", "= one", "|one = seven_7 + 1",
                   "|  <two>", "|", "two", "= two", "| _x1(one,one)", "", "= one",
                   "|seven_7-one")

    def test_whole_words_alone(self):
        document = read("= a\n|x xx x_ _x x1 x.x")
        self.check(document, "x", "yy", "= a", "|yy xx x_ _x x1 yy.yy")

    def test_words_that_are_not_there(self):
        self.assertEqual(rename_word(DOCUMENT, "none", "new"), DOCUMENT)
        self.assert_raises(Taken, {"name": "one"}, rename_word, DOCUMENT, "none", "one")
        self.assertEqual(rename_word(read(""), "a", "b"), read(""))

    def test_taken(self):
        for new in ["two", "1", "_x1"]:
            self.assert_raises(Taken, {"name": new}, rename_word, DOCUMENT, "one", new)
        # Prose, heads, references and parts of words take no word.
        for new in ["x1", "on", "p"]:
            self.assertEqual(
                rename_word(rename_word(DOCUMENT, "one", new), new, "one"), DOCUMENT)
        document = read("p\n= a\n|<b>\n|x\n= b")
        for new in ["p", "a", "b"]:
            self.check(document, "x", new, "p", "= a", "|<b>", f"|{new}", "= b")

    def test_the_old_word_as_the_new_one(self):
        self.assertEqual(rename_word(DOCUMENT, "one", "one"), DOCUMENT)
        self.assertEqual(rename_word(DOCUMENT, "none", "none"), DOCUMENT)

    def test_lines_that_would_be_references(self):
        long = "a" * 21
        document = read(f"p\n= a\n|x {long}\n|  <{long}>\n|<{long}>\n|<b>")
        self.assert_raises(Unfit, {"at": 3, "what": "reference"}, rename_word, document, long, "c")
        self.assert_raises(Unfit, {"at": 3, "what": "reference"},
                           rename_word, document, long, "a" * 20)
        self.check(document, long, "c" * 21, "p", "= a", "|x " + "c" * 21, "|  <" + "c" * 21 + ">",
                   "|<" + "c" * 21 + ">", "|<b>")
        self.assert_raises(Taken, {"name": "x"}, rename_word, document, long, "x")
        # The words of a name may be several.
        document = read(f"= a\n|<{long}-b.c>\n|<b-{long}.{long}>")
        self.assert_raises(Unfit, {"at": 1, "what": "reference"}, rename_word, document, long, "d")
        document = read(f"= a\n|<b {long}>")
        self.check(document, long, "d", "= a", "|<b d>")

    def test_renaming_back_gives_the_document(self):
        for rng, document in documents(False, 200):
            words = [word for word, _ in word_index(document)] + ["none"]
            old = rng.choice(words)
            new = rng.choice(["new", "_", "b7"])
            self.assertEqual(rename_word(rename_word(document, old, new), new, old), document)

    def test_programs_have_the_same_lines_with_the_word_replaced(self):
        for rng, document in documents(True, 200):
            old = rng.choice(["x", "y", "z", "a", "b"])
            renamed = outcome(rename_word, document, old, "new")
            self.assertIsInstance(renamed[0][0], str)
            for root in roots_of(document):
                self.assertEqual(closure(renamed, root), closure(document, root))
                before = tangle(document, root)
                after = tangle(renamed, root)
                self.assertEqual([line[1:] for line in after], [line[1:] for line in before])
                self.assertEqual(texts_of(after), [
                    WORD.sub(lambda found: "new" if found.group() == old else found.group(), text)
                    for text in texts_of(before)])
            self.assertTrue(all([is_code(line[1]) for line in renamed if line[0] == "code"]))
