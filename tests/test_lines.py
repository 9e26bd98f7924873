"""Points 4 to 8: lines of documents, names, faults."""

from tests.support import WeftTest, text_of
from weft.errors import BadDocument
from weft.lines import is_code, is_name, is_prose, read, write

NAME_20 = "abcdefghij0123456789"
ALL_NAME_SIGNS = (
    "abcdefghijklmnopqrst", "uvwxyz", "ABCDEFGHIJKLMNOPQRST", "UVWXYZ", "0123456789", "-_.", "."
)
ALL_SIGNS = [chr(code) for code in range(32, 127) if chr(code) != "%"]
NO_NAME_SIGNS = [sign for sign in ALL_SIGNS if not sign.isalnum() and sign not in "-_."]


class Reading(WeftTest):
    def read_behind_head(self, *written):
        return read(text_of("= a", *written))[1:]

    def test_example(self):
        self.assertEqual(
            read("All of it.\n= all\n|begin\n|  <rest>"),
            (("prose", "All of it."), ("head", "all"), ("code", "begin"), ("use", 2, "rest")),
        )

    def test_empty_text_is_one_line_of_prose(self):
        self.assertEqual(read(""), (("prose", ""),))

    def test_last_newline_gives_an_empty_last_line(self):
        self.assertEqual(read("a\n"), (("prose", "a"), ("prose", "")))
        self.assertEqual(read("\n\n"), (("prose", ""), ("prose", ""), ("prose", "")))
        self.assertEqual(read("= a\n"), (("head", "a"), ("prose", "")))

    def test_prose(self):
        for text in ["a", " ", " = a", " |a", "<a>", "-", "a|b", "a = b", "[1] a"]:
            with self.subTest(text):
                self.assertEqual(read(text), (("prose", text),))

    def test_heads(self):
        for name in ["a", NAME_20, *ALL_NAME_SIGNS]:
            with self.subTest(name):
                self.assertEqual(read(f"= {name}"), (("head", name),))

    def test_code(self):
        for text in ["", "a", " ", "  a  ", "|", "=", "= a", "||a", "a <b>", "a<b>"]:
            with self.subTest(text):
                self.assertEqual(self.read_behind_head("|" + text), (("code", text),))

    def test_code_may_stand_behind_code_and_references(self):
        self.assertEqual(
            self.read_behind_head("|a", "|<b>", "|c", "|<d>", "|<e>"),
            (("code", "a"), ("use", 0, "b"), ("code", "c"), ("use", 0, "d"), ("use", 0, "e")),
        )

    def test_references(self):
        for name in ["b", NAME_20, *ALL_NAME_SIGNS]:
            for indent in [0, 1, 2, 13]:
                with self.subTest(name=name, indent=indent):
                    written = "|" + " " * indent + f"<{name}>"
                    self.assertEqual(self.read_behind_head(written), (("use", indent, name),))

    def test_what_is_nearly_a_reference_is_code(self):
        nearly = [
            "<>", "<", ">", "<<", ">>", "<b", "b>", "< b>", "<b >", "<b> ", "<b>>", "<<b>", "<b>;",
            "  <>", "  <b> ", "  <b", "x<b>", "-<b>", "<b><c>", "<b c>", "><", "(b)", "<b/>",
            "bcd>", "<bcd", "(bcd>", "<bcd)", "  >bcd>", "  <bcd<",
            "<" + NAME_20 + "a>", "  <" + NAME_20 + "a>",
        ]
        nearly += [f"<b{sign}b>" for sign in NO_NAME_SIGNS]
        nearly += [f"  {sign}<b>" for sign in ALL_SIGNS if sign != " "]
        for text in nearly:
            with self.subTest(text):
                self.assertEqual(self.read_behind_head("|" + text), (("code", text),))

    def test_several_sections(self):
        self.assertEqual(
            read("= a\n= b\n|x\n= a\n\np"),
            (("head", "a"), ("head", "b"), ("code", "x"), ("head", "a"), ("prose", ""),
             ("prose", "p")),
        )


class Writing(WeftTest):
    def test_each_kind_of_line(self):
        for line, written in [
            (("head", "a.b"), "= a.b"),
            (("use", 0, "b"), "|<b>"),
            (("use", 3, "b"), "|   <b>"),
            (("code", ""), "|"),
            (("code", "  x"), "|  x"),
            (("code", "| x"), "|| x"),
            (("prose", ""), ""),
            (("prose", " p "), " p "),
        ]:
            with self.subTest(written):
                self.assertEqual(write((line,)), written)

    def test_lines_are_separated_by_newlines(self):
        self.assertEqual(write((("prose", ""), ("prose", "a"), ("prose", ""))), "\na\n")

    def test_write_of_what_is_read_is_the_text(self):
        for text in [
            "", "\n", "\n\n", "a", "a\n", "= a", "= a\n", "= a\n|", "= a\n|\n", "= a\n|<b>\n|  <b>",
            "= a\n|<b> \n| x\n\n\np\n= a\n= b\n| <>\np", "= a\n||\n|=",
        ]:
            with self.subTest(text):
                self.assertEqual(write(read(text)), text)

    def test_read_of_what_is_written_is_the_document(self):
        for document in [
            (("prose", ""),),
            (("prose", "p"), ("head", "a"), ("code", ""), ("use", 0, "b"), ("use", 9, "c")),
            (("head", "a"), ("head", "b"), ("code", " <b> "), ("prose", ""), ("prose", "")),
        ]:
            with self.subTest(document):
                self.assertEqual(read(write(document)), document)


class Faults(WeftTest):
    def check(self, text, line, column, what):
        with self.subTest(text):
            attributes = {"line": line, "column": column, "what": what}
            self.assert_raises(BadDocument, attributes, read, text)

    def test_space_is_expected(self):
        for head in ["=", "=a", "==", "=a b", "==  a", "=|", "=-a"]:
            self.check(head, 1, 2, "space is expected")

    def test_name_is_expected(self):
        self.check("= ", 1, 3, "name is expected")
        self.check("\n= \n= a", 2, 3, "name is expected")

    def test_character_cannot_be_in_a_name(self):
        what = "character cannot be in a name"
        for sign in NO_NAME_SIGNS:
            self.check(f"= {sign}", 1, 3, what)
            self.check(f"= ab{sign}", 1, 5, what)
            self.check(f"= ab{sign}c{sign}", 1, 5, what)
        self.check("=  a", 1, 3, what)
        self.check("= a ", 1, 4, what)
        self.check("= a b", 1, 4, what)

    def test_bad_sign_among_the_first_21(self):
        what = "character cannot be in a name"
        for at in range(21):
            for behind in ["", "b", "b" * 30, "!" * 30]:
                self.check("= " + "a" * at + "!" + behind, 1, at + 3, what)

    def test_name_is_longer_than_20(self):
        what = "name is longer than 20"
        self.assertEqual(read("= " + NAME_20), (("head", NAME_20),))
        for behind in ["a", "ab", "a" * 30, "a!", "a b", "a ", "a!!!"]:
            self.check("= " + NAME_20 + behind, 1, 23, what)

    def test_code_without_a_head(self):
        what = "code without a head"
        for bar in ["|", "|a", "|<b>", "|  <b>", "||"]:
            self.check(bar, 1, 1, what)
            self.check(f"\n{bar}", 2, 1, what)
            self.check(f"p\n{bar}\n= a", 2, 1, what)
            self.check(f"= a\n|x\n\n{bar}", 4, 1, what)
            self.check(f"= a\np\n{bar}", 3, 1, what)

    def test_first_line_with_a_fault_is_told(self):
        self.check("= a\n= \n=\n|x\n\n|x", 2, 3, "name is expected")
        self.check("|x\n=", 1, 1, "code without a head")
        self.check("= a\n|<>\n\n|\n=b", 4, 1, "code without a head")
        self.check("p\n= a!\n|x", 2, 4, "character cannot be in a name")
        self.check("=\n|x", 1, 2, "space is expected")

    def test_a_line_with_several_faults(self):
        self.check("=!" + "a" * 30, 1, 2, "space is expected")
        self.check("=." + "!" * 30, 1, 2, "space is expected")
        self.check("= " + "a" * 15 + "!" + "a" * 15, 1, 18, "character cannot be in a name")
        self.check("= " + "a" * 20 + "!" + "a" * 15, 1, 23, "character cannot be in a name")
        self.check("= " + "a" * 21 + "!" + "a" * 15, 1, 23, "name is longer than 20")


class Names(WeftTest):
    def test_names(self):
        for text in ["a", "Z", "0", "-", "_", ".", "-a", "a.b", "..", NAME_20, *ALL_NAME_SIGNS]:
            with self.subTest(text):
                self.assertIs(is_name(text), True)

    def test_no_names(self):
        others = ["", " ", "a ", " a", "a b", "\n", "a\n", "\na", NAME_20 + "a", "a" * 40]
        for text in others + NO_NAME_SIGNS + [f"a{sign}b" for sign in NO_NAME_SIGNS]:
            with self.subTest(text):
                self.assertIs(is_name(text), False)


class CodeAndProse(WeftTest):
    def test_code(self):
        for text in [
            "", " ", "a", "|", "= a", "=", "|<b>", "<>", "<b", "b>", "<b> ", "x <b>", "< b>", "<b >",
            "  <b>x", "<" + NAME_20 + "a>",
        ]:
            with self.subTest(text):
                self.assertIs(is_code(text), True)

    def test_no_code(self):
        for text in [
            "<b>", " <b>", "     <b>", "<" + NAME_20 + ">", "<->", "\n", "a\n", "\na", "a\nb",
            "<b\n>", "<b>\n", "\n<b>",
        ]:
            with self.subTest(text):
                self.assertIs(is_code(text), False)

    def test_prose(self):
        for text in ["", " ", "a", " = a", " |", "a=", "a|", "<b>", "    x"]:
            with self.subTest(text):
                self.assertIs(is_prose(text), True)

    def test_no_prose(self):
        for text in ["=", "= a", "=a", "|", "|a", "|<b>", "\n", "a\n", "a\nb", "a\n=", "\n|"]:
            with self.subTest(text):
                self.assertIs(is_prose(text), False)

    def test_they_tell_what_a_line_is_read_as(self):
        for sign in ALL_SIGNS:
            text = f"<{sign}>"
            self.assertIs(is_code(text), read("= a\n|" + text)[1][0] == "code", text)
            expected = sign not in "=|"
            self.assertIs(is_prose(sign), expected, sign)
