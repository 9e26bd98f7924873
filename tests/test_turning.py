"""Points 25 to 30: turnings, which leave the texts of programs as they are."""

from tests.made import NAMES, documents
from tests.support import WeftTest, outcome, text_of
from weft.errors import BadPlace, NoPiece, Ring, Taken
from weft.lines import read, write
from weft.pieces import piece_lines, piece_names, users_of
from weft.tangling import tangle, texts_of
from weft.turning import join, move_section, put_in, rename, split, take_out


def told(document, root):
    """Return the texts of a program, or the class of the error that it raises."""
    found = outcome(tangle, document, root)
    return texts_of(found) if isinstance(found, list) else found[0]


class TurningTest(WeftTest):
    def turned(self, document, expected, call, *arguments):
        """Check that a call turns a document into another one."""
        before = write(document)
        found = call(document, *arguments)
        self.assertEqual(write(found), expected)
        self.assertIs(type(found), tuple)
        self.assertEqual(read(write(found)), found)
        self.assertEqual(write(document), before)

    def refused(self, error, attributes, document, call, *arguments):
        before = write(document)
        self.assert_raises(error, attributes, call, document, *arguments)
        self.assertEqual(write(document), before)

    def check_programs(self, before, after, names):
        """Check that the programs of some pieces are as they were."""
        self.assertEqual(read(write(after)), after)
        for name in names:
            self.assertEqual(told(after, name), told(before, name), (name, before, after))


class Rename(TurningTest):
    document = read(text_of(
        "= a of prose"[2:], "= a", "|a", "|  <a>", "|<b>", "", "<a>", "= b", "| <a>", "|<ab>",
        "= a", "|<c>"))

    def test_heads_and_references(self):
        self.turned(self.document, text_of(
            "a of prose", "= z", "|a", "|  <z>", "|<b>", "", "<a>", "= b", "| <z>", "|<ab>",
            "= z", "|<c>"), rename, "a", "z")
        self.turned(self.document, text_of(
            "a of prose", "= a", "|a", "|  <a>", "|<a-b.C_9>", "", "<a>", "= a-b.C_9", "| <a>",
            "|<ab>", "= a", "|<c>"), rename, "b", "a-b.C_9")

    def test_no_piece(self):
        self.refused(NoPiece, {"name": "z"}, self.document, rename, "z", "y")
        self.refused(NoPiece, {"name": "c"}, self.document, rename, "c", "y")

    def test_no_piece_comes_before_taken(self):
        self.refused(NoPiece, {"name": "c"}, self.document, rename, "c", "a")
        self.refused(NoPiece, {"name": "z"}, self.document, rename, "z", "z")

    def test_taken_by_a_section(self):
        self.refused(Taken, {"name": "b"}, self.document, rename, "a", "b")

    def test_taken_by_a_reference_alone(self):
        self.refused(Taken, {"name": "c"}, self.document, rename, "a", "c")
        self.refused(Taken, {"name": "ab"}, self.document, rename, "b", "ab")

    def test_old_and_new_name_equal(self):
        self.refused(Taken, {"name": "a"}, self.document, rename, "a", "a")

    def test_programs_stay(self):
        for in_order in (False, True):
            for rng, document in documents(in_order):
                old = rng.choice(piece_names(document))
                found = rename(document, old, "new")
                names = [name for name in piece_names(document) if name != old]
                self.check_programs(document, found, names)
                self.assertEqual(told(found, "new"), told(document, old))
                self.assertEqual(piece_names(found),
                                 ["new" if name == old else name for name in piece_names(document)])


class TakeOut(TurningTest):
    document = read(text_of(
        "prose",       # 0
        "= a",         # 1
        "|    x",      # 2
        "|",           # 3
        "|   <b>",     # 4
        "|  y  z",     # 5
        "|     ",      # 6
        "|",           # 7
        "= b",         # 8
        "|<c>",        # 9
        "| w",         # 10
        "",            # 11
    ))

    def test_one_line_of_code(self):
        self.turned(self.document, text_of(
            "prose", "= a", "|    <new>", "|", "|   <b>", "|  y  z", "|     ", "|", "= b", "|<c>",
            "| w", "", "", "= new", "|x"), take_out, 2, 2, "new")

    def test_one_reference(self):
        self.turned(self.document, text_of(
            "prose", "= a", "|    x", "|", "|   <new>", "|  y  z", "|     ", "|", "= b", "|<c>",
            "| w", "", "", "= new", "|<b>"), take_out, 4, 4, "new")

    def test_least_indent_of_code_and_references(self):
        self.turned(self.document, text_of(
            "prose", "= a", "|   <new>", "|  y  z", "|     ", "|", "= b", "|<c>",
            "| w", "", "", "= new", "| x", "|", "|<b>"), take_out, 2, 4, "new")
        self.turned(self.document, text_of(
            "prose", "= a", "|    x", "|", "|  <new>", "|     ", "|", "= b", "|<c>",
            "| w", "", "", "= new", "| <b>", "|y  z"), take_out, 4, 5, "new")

    def test_all_lines_of_a_section(self):
        self.turned(self.document, text_of(
            "prose", "= a", "|  <new>", "= b", "|<c>", "| w", "",
            "", "= new", "|  x", "|", "| <b>", "|y  z", "|   ", "|"), take_out, 2, 7, "new")
        self.turned(self.document, text_of(
            "prose", "= a", "|    x", "|", "|   <b>", "|  y  z", "|     ", "|", "= b", "|<new>",
            "", "", "= new", "|<c>", "| w"), take_out, 9, 10, "new")

    def test_empty_texts_alone(self):
        self.turned(self.document, text_of(
            "prose", "= a", "|    x", "|<new>", "|   <b>", "|  y  z", "|     ", "|", "= b", "|<c>",
            "| w", "", "", "= new", "|"), take_out, 3, 3, "new")
        self.turned(read("= a\n|\n|"), "= a\n|<n>\n\n= n\n|\n|", take_out, 1, 2, "n")

    def test_texts_of_blanks_alone(self):
        self.turned(self.document, text_of(
            "prose", "= a", "|    x", "|", "|   <b>", "|  y  z", "|    <new>", "|", "= b", "|<c>",
            "| w", "", "", "= new", "| "), take_out, 6, 6, "new")
        self.turned(read("= a\n| \n|   x"), "= a\n|<n>\n\n= n\n| \n|   x", take_out, 1, 2, "n")
        self.turned(read("= a\n|   \n|   x"), "= a\n|  <n>\n\n= n\n| \n| x", take_out, 1, 2, "n")

    def test_code_that_looks_like_other_lines(self):
        self.turned(read("= a\n|  |x\n|  = b\n|  <c> "), "= a\n|  <n>\n\n= n\n||x\n|= b\n|<c> ",
                    take_out, 1, 3, "n")

    def test_name_that_is_in_prose_and_code_alone(self):
        self.turned(read("<n>\n= a\n|n <n>"), "<n>\n= a\n|<n>\n\n= n\n|n <n>", take_out, 2, 2, "n")

    def test_bad_places(self):
        for first, last in [
            (3, 2), (5, 4), (7, 2), (0, 0), (0, 2), (1, 1), (1, 2), (8, 8), (7, 9), (4, 9),
            (2, 8), (10, 11), (11, 11), (10, 12), (12, 12), (12, 13), (-1, -1), (-10, -9),
            (-1, 2), (2, 10 ** 12), (10 ** 12, 10 ** 12), (10, -2),
        ]:
            with self.subTest(first=first, last=last):
                self.refused(BadPlace, {}, self.document, take_out, first, last, "new")

    def test_bad_place_comes_before_taken(self):
        self.refused(BadPlace, {}, self.document, take_out, 0, 0, "a")
        self.refused(BadPlace, {}, self.document, take_out, 3, 2, "c")

    def test_taken(self):
        for name in ["a", "b", "c"]:
            with self.subTest(name):
                self.refused(Taken, {"name": name}, self.document, take_out, 2, 2, name)

    def test_taken_by_a_reference_among_the_lines(self):
        self.refused(Taken, {"name": "c"}, self.document, take_out, 9, 9, "c")

    def test_programs_stay(self):
        taken_out = 0
        for in_order in (False, True):
            for rng, document in documents(in_order):
                first = rng.randrange(len(document))
                last = min(len(document) - 1, first + rng.randrange(4))
                found = outcome(take_out, document, first, last, "new")
                if found != (BadPlace, {}):
                    taken_out += 1
                    self.check_programs(document, found, piece_names(document))
                    self.assertEqual(put_in_last(found, first), document)
        self.assertGreater(taken_out, 100)


def put_in_last(document, at):
    """Put in the reference to the section at the end, and take the section away."""
    lines = piece_lines(document, document[at][2])
    return put_in(document, at)[:-len(lines) - 2]


class PutIn(TurningTest):
    def test_indents(self):
        self.turned(read("= a\n|x\n|  <b>\n|y\n= b\n|p\n| <c>\n|\n| q\n|<d>"), text_of(
            "= a", "|x", "|  p", "|   <c>", "|", "|   q", "|  <d>", "|y",
            "= b", "|p", "| <c>", "|", "| q", "|<d>"), put_in, 2)

    def test_no_indent(self):
        self.turned(read("= a\n|<b>\n= b\n|p\n| <c>\n| "), "= a\n|p\n| <c>\n| \n= b\n|p\n| <c>\n| ",
                    put_in, 1)

    def test_texts_of_blanks_alone(self):
        self.turned(read("= a\n|  <b>\n= b\n| "), "= a\n|   \n= b\n| ", put_in, 1)

    def test_pieces_of_several_sections(self):
        self.turned(read("= b\n|1\n\n= a\n| <b>\n= c\n|<b>\n= b\n|2\n|3\np\n= b\n= b\n|4"), text_of(
            "= b", "|1", "", "= a", "| 1", "| 2", "| 3", "| 4", "= c", "|<b>", "= b", "|2", "|3",
            "p", "= b", "= b", "|4"), put_in, 4)

    def test_a_piece_without_lines(self):
        self.turned(read("= a\n|x\n| <b>\n|y\n= b\nz"), "= a\n|x\n|y\n= b\nz", put_in, 2)
        self.turned(read("= a\n|<b>\n= b"), "= a\n= b", put_in, 1)

    def test_one_reference_alone_is_put_in(self):
        self.turned(read("= a\n|<b>\n|<b>\n= b\n|x"), "= a\n|<b>\n|x\n= b\n|x", put_in, 2)

    def test_bad_places(self):
        document = read("<b>\n= b\n|<c\n|<c>\n\n= d\n|<c>")
        for at in [0, 1, 2, 4, 5, 7, 8, -1, -4, 10 ** 12]:
            with self.subTest(at):
                self.refused(BadPlace, {}, document, put_in, at)

    def test_no_piece(self):
        self.refused(NoPiece, {"name": "c"}, read("= a\n|<c>"), put_in, 1)

    def test_ring(self):
        document = read("= a\n|<b>\n|<a>\n= b\n|x\n= c\n|<a>\n= b\n| <b>")
        self.refused(Ring, {"names": ("a",)}, document, put_in, 2)
        self.refused(Ring, {"names": ("b",)}, document, put_in, 8)

    def test_a_longer_ring_is_none_here(self):
        self.turned(read("= a\n| <b>\n= b\n|x\n| <a>"), "= a\n| x\n|  <a>\n= b\n|x\n| <a>", put_in, 1)
        self.turned(read("= a\n|<b>\n= b\n|<b>"), "= a\n|<b>\n= b\n|<b>", put_in, 1)

    def test_programs_stay(self):
        put = 0
        for in_order in (False, True):
            for rng, document in documents(in_order):
                for name in NAMES:
                    for at in users_of(document, name):
                        found = outcome(put_in, document, at)
                        if type(found[0]) is not type:
                            put += 1
                            self.check_programs(document, found, piece_names(document))
        self.assertGreater(put, 100)


class Split(TurningTest):
    document = read("p\n= a\n|x\n| <b>\n|y\n|\n= b\n|<c>\n|<d>\n\n= b\n|z\n= c\n= d")

    def test_split(self):
        self.turned(self.document, text_of(
            "p", "= a", "|x", "", "= a", "| <b>", "|y", "|", "= b", "|<c>", "|<d>", "", "= b",
            "|z", "= c", "= d"), split, 3)
        self.turned(self.document, text_of(
            "p", "= a", "|x", "| <b>", "", "= a", "|y", "|", "= b", "|<c>", "|<d>", "", "= b",
            "|z", "= c", "= d"), split, 4)
        self.turned(self.document, text_of(
            "p", "= a", "|x", "| <b>", "|y", "", "= a", "|", "= b", "|<c>", "|<d>", "", "= b",
            "|z", "= c", "= d"), split, 5)
        self.turned(self.document, text_of(
            "p", "= a", "|x", "| <b>", "|y", "|", "= b", "|<c>", "", "= b", "|<d>", "", "= b",
            "|z", "= c", "= d"), split, 8)

    def test_bad_places(self):
        for at in [0, 1, 2, 6, 7, 9, 10, 11, 12, 13, 14, 15, -1, -6, -10, 10 ** 12]:
            with self.subTest(at):
                self.refused(BadPlace, {}, self.document, split, at)

    def test_split_and_joined_programs_stay(self):
        joined = 0
        for in_order in (False, True):
            for _, document in documents(in_order):
                for at in range(len(document)):
                    found = outcome(split, document, at)
                    if found != (BadPlace, {}):
                        self.check_programs(document, found, piece_names(document))
                        self.assertEqual(join(found, at + 1), document)
                    found = outcome(join, document, at)
                    if found != (BadPlace, {}):
                        joined += 1
                        self.check_programs(document, found, piece_names(document))
        self.assertGreater(joined, 100)


class Join(TurningTest):
    def test_joined_directly(self):
        self.turned(read("= a\n|x\n= a\n|y\nz"), "= a\n|x\n|y\nz", join, 2)

    def test_empty_lines_of_prose_between(self):
        self.turned(read("p\n\n= a\n|x\n\n\n\n= a\n|<b>\n|y\n\nz"), "p\n\n= a\n|x\n|<b>\n|y\n\nz",
                    join, 7)

    def test_sections_without_lines(self):
        self.turned(read("= a\n\n= a\n|x"), "= a\n|x", join, 2)
        self.turned(read("= a\n= a\n|x"), "= a\n|x", join, 1)
        self.turned(read("= a\n|x\n\n= a\n\np"), "= a\n|x\n\np", join, 3)
        self.turned(read("= a\n= a"), "= a", join, 1)

    def test_a_line_of_code_that_is_empty_is_not_taken_away(self):
        self.turned(read("= a\n|\n\n= a\n|x"), "= a\n|\n|x", join, 3)

    def test_no_head(self):
        document = read("= a\n|x\n|<b>\n\n= a\n|y")
        for at in [1, 2, 3, 5, 6, -1, -2, -6, 10 ** 12]:
            with self.subTest(at):
                self.refused(BadPlace, {}, document, join, at)

    def test_no_section_before(self):
        self.refused(BadPlace, {}, read("= a\n|y"), join, 0)
        self.refused(BadPlace, {}, read("\n\n= a\n|y"), join, 2)
        self.refused(BadPlace, {}, read("p\n= a"), join, 1)

    def test_prose_between(self):
        self.refused(BadPlace, {}, read("= a\n|x\np\n= a\n|y"), join, 3)
        self.refused(BadPlace, {}, read("= a\n|x\n\np\n\n= a\n|y"), join, 5)
        self.refused(BadPlace, {}, read("= a\n|x\n \n= a\n|y"), join, 3)

    def test_section_of_another_piece(self):
        self.refused(BadPlace, {}, read("= b\n|x\n= a\n|y"), join, 2)
        self.refused(BadPlace, {}, read("= a\n|x\n= b\n\n= a\n|y"), join, 4)
        self.refused(BadPlace, {}, read("= A\n|<a>\n= a\n|y"), join, 2)


class MoveSection(TurningTest):
    document = read(text_of(
        "p",      # 0
        "= a",    # 1
        "|x",     # 2
        "|<b>",   # 3
        "q",      # 4
        "",       # 5
        "= b",    # 6
        "|y",     # 7
        "= a",    # 8
        "|z",     # 9
        "= c",    # 10
        "r",      # 11
    ))

    def test_upwards(self):
        self.turned(self.document, text_of(
            "= b", "|y", "p", "= a", "|x", "|<b>", "q", "", "= a", "|z", "= c", "r"),
            move_section, 6, 0)
        self.turned(self.document, text_of(
            "p", "= b", "|y", "= a", "|x", "|<b>", "q", "", "= a", "|z", "= c", "r"),
            move_section, 6, 1)
        self.turned(self.document, text_of(
            "p", "= a", "|x", "|<b>", "q", "= a", "|z", "", "= b", "|y", "= c", "r"),
            move_section, 8, 5)

    def test_downwards(self):
        self.turned(self.document, text_of(
            "p", "q", "= a", "|x", "|<b>", "", "= b", "|y", "= a", "|z", "= c", "r"),
            move_section, 1, 5)
        self.turned(self.document, text_of(
            "p", "q", "", "= b", "|y", "= a", "|x", "|<b>", "= a", "|z", "= c", "r"),
            move_section, 1, 8)
        self.turned(self.document, text_of(
            "p", "= a", "|x", "|<b>", "q", "", "= a", "|z", "= c", "= b", "|y", "r"),
            move_section, 6, 11)

    def test_to_the_end(self):
        self.turned(self.document, text_of(
            "p", "= a", "|x", "|<b>", "q", "", "= b", "|y", "= c", "r", "= a", "|z"),
            move_section, 8, 12)

    def test_a_section_without_lines(self):
        self.turned(self.document, text_of(
            "= c", "p", "= a", "|x", "|<b>", "q", "", "= b", "|y", "= a", "|z", "r"),
            move_section, 10, 0)

    def test_to_the_place_where_it_is(self):
        for at, target in [(1, 1), (1, 4), (6, 6), (6, 8), (8, 10), (10, 10), (10, 11)]:
            with self.subTest(at=at, target=target):
                self.turned(self.document, write(self.document), move_section, at, target)
        self.turned(read("= a\n|x"), "= a\n|x", move_section, 0, 2)

    def test_no_head(self):
        for at in [0, 2, 3, 4, 5, 12, 13, -1, -2, -4, 10 ** 12]:
            with self.subTest(at):
                self.refused(BadPlace, {}, self.document, move_section, at, 0)

    def test_target_beside_the_document(self):
        for target in [-1, -2, -12, 13, 10 ** 12]:
            with self.subTest(target):
                self.refused(BadPlace, {}, self.document, move_section, 6, target)
        self.refused(BadPlace, {}, read("= a\n|x\n= b"), move_section, 2, -1)

    def test_target_within_a_section_though_the_lines_would_stay(self):
        self.refused(BadPlace, {}, read("= a\n|x\n= a\n|x\n|z"), move_section, 0, 4)
        self.refused(BadPlace, {}, read("= a\n|x\n= a\n|x\n|<b>"), move_section, 0, 4)

    def test_target_within_a_section(self):
        for at in [1, 6, 8, 10]:
            for target in [2, 3, 7, 9]:
                with self.subTest(at=at, target=target):
                    self.refused(BadPlace, {}, self.document, move_section, at, target)

    def test_other_order_of_the_piece(self):
        for at, target in [(1, 10), (1, 11), (1, 12), (8, 0), (8, 1)]:
            with self.subTest(at=at, target=target):
                self.refused(BadPlace, {}, self.document, move_section, at, target)

    def test_sections_with_the_same_lines_have_no_order(self):
        self.turned(read("= a\n|x\np\n= a\n|x\nq"), "p\n= a\n|x\nq\n= a\n|x", move_section, 0, 6)
        self.turned(read("= a\nq\n= a\n"), "= a\n= a\nq\n", move_section, 2, 0)

    def test_a_section_without_lines_has_a_place_in_the_order(self):
        self.refused(BadPlace, {}, read("= a\n= a\n|x"), move_section, 0, 3)
        self.refused(BadPlace, {}, read("= a\n|x\n= a"), move_section, 2, 0)

    def test_programs_stay(self):
        moved = 0
        for in_order in (False, True):
            for rng, document in documents(in_order):
                for at in range(len(document)):
                    target = rng.randrange(len(document) + 1)
                    found = outcome(move_section, document, at, target)
                    if found != (BadPlace, {}):
                        moved += 1
                        self.check_programs(document, found, piece_names(document))
                        self.assertEqual(sorted(found), sorted(document))
        self.assertGreater(moved, 100)
