"""Points 31 to 33: sessions."""

from tests.made import CODE, PROSE, documents, some_edits
from tests.support import DROP, KEEP, SAME, WeftTest, ahead, behind, outcome, text_of, to
from weft.differences import least_edits
from weft.errors import (
    Apart, BadDocument, BadPlace, Both, MadeLine, Missing, NoPiece, Ring, TooLong, Unfit,
)
from weft.fates import edited, untouched
from weft.lines import read, write
from weft.mapping import apply, program_fates, woven_fates
from weft.merging import merge
from weft.pieces import closure, piece_lines, uses_of
from weft.session import Session
from weft.tangling import tangle, texts_of
from weft.weaving import weave

TEXT = text_of(
    "p",          # 0
    "= all",      # 1
    "|begin",     # 2
    "|  <one>",   # 3
    "|<two>",     # 4
    "|end",       # 5
    "= one",      # 6
    "|1",         # 7
    "|<low>",     # 8
    "= two",      # 9
    "|2",         # 10
    "= low",      # 11
    "|l",         # 12
    "= idle",     # 13
    "|i",         # 14
)
PROGRAM = ["begin", "  1", "  l", "2", "end"]


def touched(count, **edits):
    """Return edits of so many lines, untouched but for those at e0, e1 and so on."""
    return [edits.get(f"e{at}", SAME) for at in range(count)]


def woven_edits(session, line, edit):
    """Return edits of the woven text that edit what one line of the document gives."""
    woven = weave(session.document())
    return [edit if given_by == line else SAME for _, given_by in woven]


def shown(session):
    """Return all that a session tells without being changed."""
    return (session.document(), session.program(), session.woven(), session.pieces_made())


def way(session):
    """Return all documents of a session, from the earliest to the latest; it stays as it is."""
    steps = 0
    while session.undo():
        steps += 1
    found = [session.document()]
    while session.redo():
        found.append(session.document())
    for _ in range(len(found) - 1 - steps):
        session.undo()
    return found


class SessionTest(WeftTest):
    def check(self, session, root):
        """Check that a session shows its document."""
        document = session.document()
        self.assertEqual(session.program(), texts_of(tangle(document, root)))
        self.assertEqual(session.woven(), texts_of(weave(document)))

    def refused(self, error, attributes, session, deed, *arguments):
        """Check that a deed raises an error, and leaves the session as it is."""
        before = shown(session)
        self.assert_raises(error, attributes, deed, *arguments)
        self.assertEqual(shown(session), before)


class Making(SessionTest):
    def test_a_new_session(self):
        session = Session(TEXT, "all")
        self.assertEqual(session.document(), read(TEXT))
        self.assertEqual(session.program(), PROGRAM)
        self.assertEqual(session.woven(), texts_of(weave(read(TEXT))))
        self.assertEqual(session.pieces_made(), 4)
        self.assertIs(session.undo(), False)
        self.assertIs(session.redo(), False)

    def test_other_roots(self):
        for root, program, made in [("idle", ["i"], 1), ("one", ["1", "l"], 2), ("low", ["l"], 1)]:
            session = Session(TEXT, root)
            self.assertEqual((session.program(), session.pieces_made()), (program, made))

    def test_a_program_without_lines(self):
        session = Session("= a\n|<b>\n= b", "a")
        self.assertEqual((session.program(), session.pieces_made()), ([], 2))

    def test_no_document(self):
        self.assert_raises(BadDocument, {"line": 2, "column": 2, "what": "space is expected"},
                           Session, "\n=a", "a")
        self.assert_raises(BadDocument, {"line": 1, "column": 1, "what": "code without a head"},
                           Session, "|<b>", "zzz")

    def test_no_program(self):
        self.assert_raises(NoPiece, {"name": "b"}, Session, "= a", "b")
        self.assert_raises(NoPiece, {"name": "a"}, Session, "", "a")
        self.assert_raises(Missing, {"line": 1, "name": "b"}, Session, "= a\n|<b>", "a")
        self.assert_raises(Ring, {"names": ("a",)}, Session, "= a\n|<a>", "a")
        self.assert_raises(TooLong, {}, Session, "= a\n" + "|<b>\n" * 201 + "= b" + "\n|x" * 10, "a")

    def test_a_program_of_2000_lines(self):
        session = Session("= a\n" + "|<b>\n" * 200 + "= b" + "\n|x" * 10, "a")
        self.assertEqual(session.program(), ["x"] * 2000)

    def test_errors_of_pieces_that_the_root_does_not_need(self):
        session = Session("= a\n|x\n= b\n|<b>\n|<c>", "a")
        self.assertEqual(session.program(), ["x"])

    def test_a_long_row_of_pieces(self):
        rows = [f"= p{at}\n|<p{at + 1}>" for at in range(3000)]
        session = Session(text_of(*rows, "= p3000", "|x"), "p0")
        self.assertEqual((session.program(), session.pieces_made()), (["x"], 3001))
        self.assertEqual(session.replace_program(["y"]), 3001)
        self.assertEqual(session.program(), ["y"])

    def test_references_that_double_a_piece_without_lines(self):
        rows = [f"= p{at}\n|<p{at + 1}>\n|<p{at + 1}>" for at in range(60)]
        session = Session(text_of(*rows, "= p60"), "p0")
        self.assertEqual((session.program(), session.pieces_made()), ([], 61))


class Edits(SessionTest):
    def test_edit_program(self):
        session = Session(TEXT, "all")
        session.edit_program(touched(5, e1=((), to("  one"), ("  more",)), e4=((), DROP, ())))
        self.assertEqual(session.program(), ["begin", "  one", "  more", "  l", "2"])
        self.assertEqual(write(session.document()), TEXT.replace("|1", "|one\n|more")
                         .replace("|end\n", ""))
        self.check(session, "all")

    def test_edit_woven(self):
        session = Session(TEXT, "all")
        session.edit_woven(woven_edits(session, 0, ((), to("q"), ("r",))))
        self.assertEqual(session.document()[:2], (("prose", "q"), ("prose", "r")))
        session.edit_woven(woven_edits(session, 3, behind("    x")))
        self.assertEqual(session.program(), PROGRAM[:1] + ["x"] + PROGRAM[1:])
        self.check(session, "all")

    def test_edit_both(self):
        session = Session(TEXT, "all")
        session.edit_both(touched(5, e0=ahead("start")), woven_edits(session, 0, ((), DROP, ())))
        self.assertEqual(write(session.document()),
                         TEXT[2:].replace("= all\n", "= all\n|start\n"))
        self.check(session, "all")

    def test_edit_both_alike(self):
        session = Session(TEXT, "all")
        session.edit_both(touched(5, e2=((), to("  L"), ())),
                          woven_edits(session, 12, ((), to("    L"), ())))
        self.assertEqual(write(session.document()), TEXT.replace("|l", "|L"))
        self.assertIs(session.undo(), True)
        self.assertEqual(write(session.document()), TEXT)
        self.assertIs(session.undo(), False)

    def test_replace_program(self):
        session = Session(TEXT, "all")
        texts = ["start", "begin", "  l", "2", "3", "end"]
        before = list(texts)
        session.replace_program(texts)
        self.assertEqual(session.program(), texts)
        self.assertEqual(texts, before)
        self.assertEqual(write(session.document()), TEXT.replace("|begin", "|start\n|begin")
                         .replace("|1\n", "").replace("|2", "|2\n|3"))
        self.check(session, "all")

    def test_replace_program_by_nothing(self):
        session = Session(TEXT, "all")
        session.replace_program([])
        self.assertEqual(session.program(), [])
        session.replace_program([])
        self.refused(BadPlace, {}, session, session.replace_program, ["a"])
        session.undo()
        session.undo()
        self.assertEqual(session.program(), PROGRAM)

    def test_what_is_returned_shares_no_state(self):
        session = Session(TEXT, "all")
        before = shown(session)
        session.program().append("x")
        session.woven().clear()
        self.assertEqual(shown(session), before)
        edits = untouched(5)
        session.edit_program(edits)
        edits[0] = ((), DROP, ())
        self.assertEqual(session.program(), PROGRAM)

    def test_sessions_do_not_share_documents(self):
        one = Session(TEXT, "all")
        other = Session(TEXT, "all")
        one.replace_program(PROGRAM[1:])
        self.assertEqual(other.program(), PROGRAM)


class Refusals(SessionTest):
    def session(self):
        """Return a session with a document before its own, and one behind it."""
        session = Session("= a\n|<b>\n| <b>\n|y\n= b\n|x\n\np", "a")
        session.replace_program(["x", " x", "y", "z"])
        session.replace_program(["x", " x", "y", "z", "w"])
        session.undo()
        self.assertEqual(session.program(), ["x", " x", "y", "z"])
        return session

    def check_refused(self, error, attributes, deed, *arguments):
        """Check that a deed, told by its name, is refused and changes nothing at all."""
        session = self.session()
        self.refused(error, attributes, session, getattr(session, deed), *arguments)
        expected = way(self.session())
        self.assertEqual(len(expected), 3)
        self.assertEqual(way(session), expected)
        self.assertEqual(shown(session)[:3], shown(self.session())[:3])

    def test_program_edits(self):
        for error, attributes, edits in [
            (Apart, {"at": 1, "other": 0}, touched(4, e0=((), DROP, ()))),
            (Unfit, {"at": 3, "what": "place"}, touched(4, e3=ahead("u"))),
            (Unfit, {"at": 1, "what": "indent"}, touched(4, e1=behind("u"))),
            (Unfit, {"at": 1, "what": "blank"}, touched(4, e1=behind(" "))),
            (Unfit, {"at": 2, "what": "reference"}, touched(4, e2=behind("<b>"))),
            (TooLong, {}, touched(4, e2=behind(*["u"] * 1997))),
        ]:
            self.check_refused(error, attributes, "edit_program", edits)
            self.check_refused(error, attributes, "edit_both", edits, untouched(14))

    def test_woven_edits(self):
        count = len(self.session().woven())
        for error, attributes, edits in [
            (MadeLine, {"at": count - 1}, touched(count - 1) + [behind("u")]),
            (Unfit, {"at": 0, "what": "fixed"}, touched(count, e0=((), DROP, ()))),
            (Unfit, {"at": 1, "what": "place"}, touched(count, e1=ahead("    u"))),
            (Unfit, {"at": 1, "what": "kind"}, touched(count, e1=behind("u"))),
            (TooLong, {}, touched(count, e1=behind(*["    u"] * 1997))),
        ]:
            self.check_refused(error, attributes, "edit_woven", edits)
            self.check_refused(error, attributes, "edit_both", untouched(4), edits)

    def test_errors_of_the_program_come_first(self):
        session = self.session()
        made = touched(len(session.woven()) - 1) + [behind("u")]
        self.check_refused(Unfit, {"at": 3, "what": "place"}, "edit_both",
                           touched(4, e3=ahead("u")), made)
        self.check_refused(TooLong, {}, "edit_both", touched(4, e2=behind(*["u"] * 1997)), made)
        self.check_refused(MadeLine, {"at": len(made) - 1}, "edit_both",
                           touched(4, e2=((), DROP, ())), made)

    def test_both(self):
        session = self.session()
        dropped = touched(4, e2=((), DROP, ()), e3=((), DROP, ()))
        self.check_refused(Both, {"line": 3}, "edit_both", dropped,
                           woven_edits(session, 3, behind("    u")))
        self.check_refused(Both, {"line": 4}, "edit_both", dropped,
                           woven_edits(session, 4, ((), to("    u"), ())))

    def test_both_together_are_too_long(self):
        session = self.session()
        session_edits = woven_edits(session, 3, behind(*["    u"] * 1000))
        self.check_refused(TooLong, {}, "edit_both", touched(4, e3=behind(*["u"] * 1000)),
                           session_edits)
        session.edit_both(touched(4, e3=behind(*["u"] * 996)), session_edits)
        self.assertEqual(len(session.program()), 2000)

    def test_a_shared_piece_becomes_too_long(self):
        session = self.session()
        line = session.document().index(("code", "x"))
        edits = woven_edits(session, line, behind(*["    u"] * 999))
        self.check_refused(TooLong, {}, "edit_woven", edits)
        session.edit_woven(woven_edits(session, line, behind(*["    u"] * 998)))
        self.assertEqual(len(session.program()), 2000)

    def test_replaced_programs(self):
        self.check_refused(Apart, {"at": 1, "other": 0}, "replace_program", ["x", "y", "z"])
        self.check_refused(Unfit, {"at": 1, "what": "indent"}, "replace_program",
                           ["x", "u", "y", "z"])
        self.check_refused(TooLong, {}, "replace_program", ["x", " x", "y", "z"] + ["u"] * 1997)


class Ways(SessionTest):
    def numbered(self, count):
        """Return a session that was changed so many times, with the program 0 at first."""
        session = Session("= a\n|0", "a")
        for number in range(count):
            session.replace_program([str(number + 1)])
        return session

    def test_undo_and_redo(self):
        session = self.numbered(3)
        for expected in ["2", "1", "0"]:
            self.assertIs(session.undo(), True)
            self.assertEqual(session.program(), [expected])
            self.check(session, "a")
        self.assertIs(session.undo(), False)
        self.assertEqual(session.program(), ["0"])
        for expected in ["1", "2", "3"]:
            self.assertIs(session.redo(), True)
            self.assertEqual(session.program(), [expected])
            self.check(session, "a")
        self.assertIs(session.redo(), False)
        self.assertEqual(session.program(), ["3"])
        self.assertIs(session.undo(), True)
        self.assertEqual(session.program(), ["2"])

    def test_a_change_drops_the_later_documents(self):
        session = self.numbered(3)
        session.undo()
        session.undo()
        session.replace_program(["x"])
        self.assertIs(session.redo(), False)
        self.assertEqual(way(session), [(("head", "a"), ("code", text)) for text in ["0", "1", "x"]])

    def test_a_change_that_changes_nothing_is_a_change(self):
        session = self.numbered(2)
        session.undo()
        for change in [
            lambda: session.edit_program([SAME]),
            lambda: session.edit_woven(untouched(len(session.woven()))),
            lambda: session.edit_both([SAME], untouched(len(session.woven()))),
            lambda: session.replace_program(["1"]),
            lambda: session.edit_program([((), to("1"), ())]),
        ]:
            self.assertEqual(change(), 0)
            self.assertIs(session.redo(), False)
        programs = [document[1][1] for document in way(session)]
        self.assertEqual(programs, ["0", "1", "1", "1", "1", "1", "1"])

    def test_the_50_newest_earlier_documents(self):
        for count in [49, 50, 51, 120]:
            session = self.numbered(count)
            undone = 0
            while session.undo():
                undone += 1
            self.assertEqual(undone, min(count, 50))
            self.assertEqual(session.program(), [str(count - undone)])
            redone = 0
            while session.redo():
                redone += 1
            self.assertEqual(redone, undone)
            self.assertEqual(session.program(), [str(count)])
            for _ in range(undone):
                self.assertIs(session.undo(), True)
            self.assertIs(session.undo(), False)

    def test_undo_of_edits_of_all_kinds(self):
        session = Session(TEXT, "all")
        documents_seen = [session.document()]
        session.edit_program(touched(5, e3=behind("3")))
        documents_seen.append(session.document())
        session.edit_woven(woven_edits(session, 0, ((), DROP, ())))
        documents_seen.append(session.document())
        session.edit_both(touched(6, e0=ahead("u")), woven_edits(session, 11, behind("    v")))
        documents_seen.append(session.document())
        session.replace_program(session.program()[:-1])
        documents_seen.append(session.document())
        self.assertEqual(len(set(documents_seen)), 5)
        self.assertEqual(way(session), documents_seen)


class PiecesMade(SessionTest):
    def made(self, session, deed, *arguments):
        """Do a deed, and return how many pieces it tangles anew."""
        found = deed(*arguments)
        if found is not True:
            self.assertEqual(found, session.pieces_made())
            self.assertIs(type(found), int)
        return session.pieces_made()

    def test_pieces_with_other_lines_and_those_that_need_them(self):
        session = Session(TEXT, "all")
        for at, made in [(0, 1), (1, 2), (2, 3), (3, 2), (4, 1)]:
            text = session.program()[at] + "!"
            with self.subTest(at):
                self.assertEqual(made, self.made(
                    session, session.edit_program, touched(5, **{f"e{at}": ((), to(text), ())})))
        self.assertEqual(session.program(), [text + "!" for text in PROGRAM])
        self.check(session, "all")

    def test_several_pieces(self):
        session = Session(TEXT, "all")
        self.assertEqual(4, self.made(session, session.replace_program,
                                      ["begin", "  1", "  k", "3", "end"]))
        self.assertEqual(0, self.made(session, session.replace_program,
                                      ["begin", "  1", "  k", "3", "end"]))
        self.assertEqual(1, self.made(session, session.replace_program,
                                      ["begin", "  1", "  k", "3", "fin"]))

    def test_undo_and_redo_count_too(self):
        session = Session(TEXT, "all")
        session.replace_program(["begin", "  1", "  k", "2", "end"])
        session.replace_program(["begin", "  1", "  k", "3", "end"])
        self.assertEqual(2, self.made(session, session.undo))
        self.assertEqual(3, self.made(session, session.undo))
        self.assertIs(session.undo(), False)
        self.assertEqual(session.pieces_made(), 3)
        self.assertEqual(3, self.made(session, session.redo))
        self.assertEqual(2, self.made(session, session.redo))
        self.assertIs(session.redo(), False)
        self.assertEqual(session.pieces_made(), 2)

    def test_kept_pieces_are_those_of_the_present_document_alone(self):
        session = Session("= a\n|0", "a")
        session.replace_program(["1"])
        self.assertEqual(session.replace_program(["0"]), 1)

    def test_prose_and_pieces_that_are_not_needed(self):
        session = Session(TEXT, "all")
        self.assertEqual(0, self.made(
            session, session.edit_woven, woven_edits(session, 0, ((), DROP, ()))))
        self.assertEqual(0, self.made(
            session, session.edit_woven, woven_edits(session, 13, behind("    j"))))
        self.assertEqual(session.document()[-2], ("code", "i"))
        self.assertIs(session.undo(), True)
        self.assertEqual(session.pieces_made(), 0)
        self.check(session, "all")

    def test_lines_that_move_to_another_section_of_their_piece(self):
        session = Session("= a\n|x\n|y\n\n= a\n|z", "a")
        session.edit_both([SAME, ((), DROP, ()), SAME],
                          woven_edits(session, 4, behind("    y")))
        self.assertEqual(write(session.document()), "= a\n|x\n\n= a\n|y\n|z")
        self.assertEqual(session.pieces_made(), 0)
        self.check(session, "a")

    def test_a_refused_change_leaves_the_count(self):
        session = Session(TEXT, "all")
        session.replace_program(["begin", "  1", "  l", "3", "end"])
        with self.assertRaises(Unfit):
            session.replace_program(["begin", "1", "  l", "3", "end"])
        self.assertEqual(session.pieces_made(), 2)


def expected_made(document, before, root):
    """Return how many pieces are tangled anew by the words of point 33."""
    def lines_of(of, name):
        return [of[at] for at in piece_lines(of, name)]

    def is_taken_over(name):
        return (name in closure(before, root) and lines_of(document, name) == lines_of(before, name)
                and all([is_taken_over(used) for _, used in uses_of(document, name)]))

    return len([name for name in closure(document, root) if not is_taken_over(name)])


class Trials(SessionTest):
    def test_many_deeds(self):
        done = 0
        for rng, document in documents(True, 200):
            root = rng.choice(["a", "a", "b"])
            session = Session(write(document), root)
            seen = [session.document()]
            at = 0
            for _ in range(6):
                before = session.document()
                deed = rng.randrange(5)
                if deed == 0:
                    self.assertIs(session.undo(), at > 0)
                    at = max(0, at - 1)
                elif deed == 1:
                    self.assertIs(session.redo(), at + 1 < len(seen))
                    at = min(len(seen) - 1, at + 1)
                else:
                    expected, found = self.change(rng, session, root, deed)
                    if isinstance(found, tuple):
                        self.assertEqual(found[0], expected[0])
                        self.assertEqual(session.document(), before)
                        continue
                    done += 1
                    at += 1
                    seen[at:] = [expected]
                    self.assertEqual(found, expected_made(expected, before, root))
                self.assertEqual(session.document(), seen[at])
                self.check(session, root)
        self.assertGreater(done, 100)

    def change(self, rng, session, root, deed):
        """Return the document to which a change should lead, or an error; and what it returns."""
        document = session.document()
        program = untouched(len(session.program()))
        woven = untouched(len(session.woven()))
        for edits, texts in [(program, CODE), (woven, PROSE + ["    " + text for text in CODE])]:
            if edits:
                _, change, below = some_edits(rng, 1, texts)[0]
                edits[rng.randrange(len(edits))] = ((), change, below)
        if deed == 2:
            found = outcome(session.edit_program, program)
            fates = outcome(program_fates, document, root, program)
        elif deed == 3:
            found = outcome(session.edit_woven, woven)
            fates = outcome(woven_fates, document, woven)
        else:
            found = outcome(session.edit_both, program, woven)
            fates = outcome(lambda: merge(program_fates(document, root, program),
                                          woven_fates(document, woven)))
        return (apply(document, fates) if isinstance(fates, dict) else fates, found)

    def test_replaced_programs(self):
        replaced = 0
        for rng, document in documents(True, 200):
            session = Session(write(document), "a")
            program = session.program()
            texts = edited(program, some_edits(rng, len(program), ["x", "", "  y"]))
            edits = outcome(least_edits, program, texts)
            fates = edits
            if isinstance(edits, list):
                fates = outcome(program_fates, document, "a", edits)
            found = outcome(session.replace_program, texts)
            if isinstance(fates, dict):
                replaced += 1
                self.assertEqual(session.document(), apply(document, fates))
                self.assertEqual(session.program(), texts)
            else:
                self.assertEqual(found, fates)
        self.assertGreater(replaced, 20)
