"""Points 64 to 66: what an author has of the program of a desk."""

import random

from tests.made import some_edits
from tests.support import DROP, SAME, WeftTest, ahead, behind, text_of, to
from weft.copies import Copy
from weft.desk import Desk
from weft.errors import BadPlace, Clash, WeftError
from weft.fates import edited, is_touched, untouched
from weft.patches import compose, moved

GONE = ((), DROP, ())


def shown(copy):
    """Return all that a copy tells."""
    return (copy.author, list(copy.base), copy.version, copy.sent and list(copy.sent),
            list(copy.waiting), copy.texts())


class CopyTest(WeftTest):
    def check(self, copy, base, version, sent, waiting):
        """Check the attributes of a copy, and its texts."""
        self.assertEqual((copy.base, copy.version), (base, version))
        self.assertEqual((copy.sent, copy.waiting), (sent, waiting))
        texts = base if sent is None else edited(base, sent)
        self.assertEqual(copy.texts(), edited(texts, waiting))


class Making(CopyTest):
    def test_new_copy(self):
        copy = Copy("ann", ["1", "2"], 7)
        self.assertEqual(vars(copy), {
            "author": "ann", "base": ["1", "2"], "version": 7, "sent": None,
            "waiting": untouched(2)})
        self.assertEqual(copy.texts(), ["1", "2"])

    def test_copy_without_texts(self):
        copy = Copy("ann", [], 0)
        self.check(copy, [], 0, None, [])
        self.assertIsNone(copy.send())
        self.assertEqual(copy.take("bob", []), "all")
        self.check(copy, [], 1, None, [])

    def test_lists_that_are_passed_and_returned_can_be_changed(self):
        texts = ["1"]
        copy = Copy("ann", texts, 0)
        texts.clear()
        edits = [behind("2")]
        copy.edit(edits)
        edits.clear()
        before = shown(copy)
        copy.texts().clear()
        self.assertEqual(shown(copy), before)
        letter = copy.send()
        before = shown(copy)
        letter[2].clear()
        self.assertEqual(shown(copy), before)
        edits = [behind("3")]
        copy.take("bob", edits)
        self.assertEqual(edits, [behind("3")])
        before = shown(copy)
        edits.clear()
        self.assertEqual(shown(copy), before)

    def test_lists_of_edits_that_a_copy_takes_can_be_changed(self):
        copy = Copy("ann", ["1"], 0)
        edits = [behind("3")]
        copy.edit([ahead("2")])
        copy.take("bob", edits)
        edits.append(SAME)
        self.check(copy, ["1", "3"], 1, None, [ahead("2"), SAME])


class Editing(CopyTest):
    def test_edits_are_composed_with_those_that_wait(self):
        copy = Copy("ann", ["1", "2"], 0)
        self.assertIsNone(copy.edit([behind("3"), GONE]))
        self.check(copy, ["1", "2"], 0, None, [behind("3"), GONE])
        copy.edit([((), to("4"), ()), behind("5")])
        self.check(copy, ["1", "2"], 0, None, [((), to("4"), ("3", "5")), GONE])
        self.assertEqual(copy.texts(), ["4", "3", "5"])

    def test_edits_behind_those_that_were_sent(self):
        copy = Copy("ann", ["1"], 0)
        copy.edit([behind("2")])
        copy.send()
        copy.edit([GONE, behind("3")])
        self.check(copy, ["1"], 0, [behind("2")], [GONE, behind("3")])
        self.assertEqual(copy.texts(), ["2", "3"])
        copy.edit([SAME, GONE])
        self.check(copy, ["1"], 0, [behind("2")], [GONE, SAME])

    def test_untouched_edits(self):
        copy = Copy("ann", ["1"], 0)
        copy.edit([SAME])
        self.check(copy, ["1"], 0, None, [SAME])


class Sending(CopyTest):
    def test_nothing_waits(self):
        copy = Copy("ann", ["1"], 3)
        self.assertIsNone(copy.send())
        self.check(copy, ["1"], 3, None, [SAME])
        copy.edit([SAME])
        self.assertIsNone(copy.send())
        self.check(copy, ["1"], 3, None, [SAME])

    def test_edits_that_wait_are_sent(self):
        copy = Copy("ann", ["1", "2"], 3)
        copy.edit([behind("3", "4"), GONE])
        self.assertEqual(copy.send(), ("ann", 3, [behind("3", "4"), GONE]))
        self.check(copy, ["1", "2"], 3, [behind("3", "4"), GONE], untouched(3))

    def test_nothing_is_sent_while_edits_are_sent(self):
        copy = Copy("ann", ["1"], 3)
        copy.edit([behind("2")])
        copy.send()
        before = shown(copy)
        self.assertIsNone(copy.send())
        self.assertEqual(shown(copy), before)
        copy.edit([SAME, GONE])
        before = shown(copy)
        self.assertIsNone(copy.send())
        self.assertEqual(shown(copy), before)

    def test_edits_that_waited_are_sent_behind_the_own_ones(self):
        copy = Copy("ann", ["1"], 3)
        copy.edit([behind("2")])
        copy.send()
        copy.edit([SAME, GONE])
        copy.take("ann", [behind("2")])
        self.assertEqual(copy.send(), ("ann", 4, [SAME, GONE]))
        self.check(copy, ["1", "2"], 4, [SAME, GONE], untouched(1))

    def test_a_text_that_is_there_is_sent(self):
        copy = Copy("ann", ["1"], 0)
        copy.edit([((), to("1"), ())])
        self.assertEqual(copy.send(), ("ann", 0, [((), to("1"), ())]))


class TakingOwn(CopyTest):
    def test_with_nothing_waiting(self):
        copy = Copy("ann", ["1"], 0)
        copy.edit([behind("2")])
        copy.send()
        self.assertEqual(copy.take("ann", [behind("2")]), "all")
        self.check(copy, ["1", "2"], 1, None, untouched(2))

    def test_with_edits_that_wait(self):
        copy = Copy("ann", ["1"], 0)
        copy.edit([behind("2")])
        copy.send()
        copy.edit([GONE, ((), to("3"), ())])
        self.assertEqual(copy.take("ann", [behind("2")]), "all")
        self.check(copy, ["1", "2"], 1, None, [GONE, ((), to("3"), ())])
        self.assertEqual(copy.texts(), ["3"])

    def test_edits_of_the_author_are_others_if_none_were_sent(self):
        copy = Copy("ann", ["1"], 0)
        copy.edit([behind("2")])
        self.assertEqual(copy.take("ann", [behind("3")]), "all")
        self.check(copy, ["1", "3"], 1, None, [SAME, behind("2")])
        self.assertEqual(copy.take("ann", [GONE, GONE]), "sent")
        self.check(copy, [], 2, None, [])

    def test_edits_of_others_are_not_own(self):
        copy = Copy("ann", ["1"], 0)
        copy.edit([behind("2")])
        copy.send()
        self.assertEqual(copy.take("bob", [behind("2")]), "all")
        self.check(copy, ["1", "2"], 1, [SAME, behind("2")], untouched(3))


class TakingOthers(CopyTest):
    def test_nothing_under_way(self):
        copy = Copy("ann", ["1", "2"], 5)
        self.assertEqual(copy.take("bob", [GONE, behind("3")]), "all")
        self.check(copy, ["2", "3"], 6, None, untouched(2))
        self.assertEqual(copy.take("bob", [GONE, GONE]), "all")
        self.check(copy, [], 7, None, [])

    def test_waiting_ones_are_moved(self):
        copy = Copy("ann", ["1", "2"], 0)
        copy.edit([(("0",), ("keep",), ("3",)), GONE])
        self.assertEqual(copy.take("bob", [(("5",), ("keep",), ("4",)), SAME]), "all")
        self.check(copy, ["5", "1", "4", "2"], 1, None, [behind("0"), SAME, behind("3"), GONE])
        self.assertEqual(copy.texts(), ["5", "0", "1", "4", "3"])

    def test_sent_and_waiting_ones_are_moved(self):
        copy = Copy("ann", ["1"], 0)
        copy.edit([behind("2")])
        copy.send()
        copy.edit([behind("3"), SAME])
        self.assertEqual(copy.texts(), ["1", "3", "2"])
        self.assertEqual(copy.take("bob", [behind("4")]), "all")
        # What bob put stands ahead of what was sent, and of what waits.
        self.check(copy, ["1", "4"], 1, [SAME, behind("2")], [SAME, behind("3"), SAME])
        self.assertEqual(copy.texts(), ["1", "4", "3", "2"])
        self.assertEqual(copy.take("bob", [((), to("6"), ()), ahead("5")]), "all")
        self.assertEqual(copy.texts(), ["6", "5", "4", "3", "2"])
        self.assertEqual(copy.take("ann", [SAME, SAME, behind("2")]), "all")
        self.assertEqual((copy.version, copy.sent), (3, None))

    def test_changes_alike(self):
        copy = Copy("ann", ["1", "2"], 0)
        copy.edit([GONE, ((), to("3"), ())])
        copy.send()
        self.assertEqual(copy.take("bob", [GONE, ((), to("3"), ())]), "all")
        self.check(copy, ["3"], 1, [SAME], [SAME])
        copy.edit([GONE])
        self.assertEqual(copy.take("bob", [GONE]), "all")
        self.check(copy, [], 2, [], [])

    def test_waiting_ones_alone_are_given_up_with_nothing_sent(self):
        copy = Copy("ann", ["1", "2"], 0)
        copy.edit([((), to("3"), ()), behind("4")])
        self.assertEqual(copy.take("bob", [((), to("5"), ()), behind("6")]), "sent")
        self.check(copy, ["5", "2", "6"], 1, None, untouched(3))

    def test_waiting_ones_alone_are_given_up_behind_those_sent(self):
        copy = Copy("ann", ["1", "2"], 0)
        copy.edit([behind("3"), SAME])
        copy.send()
        copy.edit([GONE, SAME, behind("4")])
        self.assertEqual(copy.take("bob", [((), to("5"), ()), behind("6")]), "sent")
        self.check(copy, ["5", "2", "6"], 1, [behind("3"), SAME, SAME], untouched(4))
        self.assertEqual(copy.take("ann", [behind("3"), SAME, SAME]), "all")
        self.check(copy, ["5", "3", "2", "6"], 2, None, untouched(4))

    def test_waiting_ones_are_given_up_for_a_bad_place(self):
        copy = Copy("ann", ["1"], 0)
        copy.edit([behind("2")])
        self.assertEqual(copy.take("bob", [GONE]), "sent")
        self.check(copy, [], 1, None, [])
        copy = Copy("ann", ["1", "2"], 0)
        copy.edit([GONE, SAME])
        copy.send()
        copy.edit([behind("3")])
        self.assertEqual(copy.take("bob", [SAME, GONE]), "sent")
        self.check(copy, ["1"], 1, [GONE], [])

    def test_all_are_given_up_for_a_clash(self):
        for waiting in [untouched(3), [behind("5"), SAME, SAME]]:
            copy = Copy("ann", ["1", "2"], 0)
            copy.edit([((), to("3"), ("4",)), SAME])
            copy.send()
            copy.edit(waiting)
            self.assertEqual(copy.take("bob", [GONE, behind("6")]), "none")
            self.check(copy, ["2", "6"], 1, None, untouched(2))

    def test_all_are_given_up_for_a_bad_place(self):
        # The edits that were sent cannot be moved past the accepted ones.
        copy = Copy("ann", ["1"], 0)
        copy.edit([behind("2")])
        copy.send()
        self.assertEqual(copy.take("bob", [GONE]), "none")
        self.check(copy, [], 1, None, [])
        # The accepted ones cannot be moved past those that were sent.
        copy = Copy("ann", ["1"], 0)
        copy.edit([GONE])
        copy.send()
        self.assertEqual(copy.take("bob", [behind("2")]), "none")
        self.check(copy, ["1", "2"], 1, None, untouched(2))
        # The desk could move them, so that they come back.
        self.assertEqual(copy.take("ann", [GONE, SAME]), "all")
        self.check(copy, ["2"], 2, None, untouched(1))

    def test_the_accepted_ones_are_moved_past_those_sent_as_they_were(self):
        copy = Copy("ann", ["1", "2"], 0)
        copy.edit([GONE, behind("3")])
        copy.send()
        copy.edit([SAME, behind("4")])
        edits = [behind("5", "6"), ((), to("7"), ())]
        past = moved(edits, [GONE, behind("3")], is_first=True)
        waiting = moved([SAME, behind("4")], past, is_first=False)
        self.assertEqual(copy.take("bob", edits), "all")
        self.check(copy, ["1", "5", "6", "7"], 1, [GONE, SAME, SAME, behind("3")], waiting)
        self.assertEqual(copy.texts(), ["5", "6", "7", "3", "4"])


class Refused(CopyTest):
    def test_all_is_given_up(self):
        copy = Copy("ann", ["1", "2"], 4)
        copy.edit([GONE, SAME])
        copy.send()
        copy.edit([behind("3")])
        self.assertIsNone(copy.refused())
        self.check(copy, ["1", "2"], 4, None, untouched(2))
        self.assertIsNone(copy.send())
        copy.edit([SAME, GONE])
        self.assertEqual(copy.send(), ("ann", 4, [SAME, GONE]))

    def test_behind_edits_of_others(self):
        copy = Copy("ann", ["1"], 0)
        copy.edit([behind("2")])
        copy.send()
        copy.take("bob", [behind("3", "4")])
        copy.refused()
        self.check(copy, ["1", "3", "4"], 1, None, untouched(3))

    def test_nothing_was_sent(self):
        copy = Copy("ann", ["1"], 0)
        copy.edit([behind("2")])
        copy.refused()
        self.check(copy, ["1"], 0, None, untouched(1))


class NaiveCopy:
    """A copy by the words of points 64 and 65."""

    def __init__(self, author, texts):
        self.author = author
        self.base = texts
        self.sent = None
        self.waiting = untouched(len(texts))

    def send(self):
        if self.sent is None and any(map(is_touched, self.waiting)):
            self.sent = self.waiting
            self.waiting = untouched(len(edited(self.base, self.sent)))

    def take(self, author, edits):
        base = edited(self.base, edits)
        self.base, before = base, self.base
        if self.sent is not None and author == self.author:
            self.sent = None
            return "all"
        past = edits
        if self.sent is not None:
            try:
                past = moved(edits, self.sent, is_first=True)
                self.sent = moved(self.sent, edits, is_first=False)
            except (Clash, BadPlace):
                self.sent = None
                self.waiting = untouched(len(base))
                return "none"
        try:
            self.waiting = moved(self.waiting, past, is_first=False)
        except (Clash, BadPlace):
            self.waiting = untouched(len(edited(base, self.sent) if self.sent else base))
            return "sent"
        return "all"


class TogetherAtLast(CopyTest):
    authors = ["ann", "bob", "cas"]

    def test_copies_and_desk_agree(self):
        told = {"all": 0, "sent": 0, "none": 0, "refused": 0}
        for seed in range(400):
            self.play(random.Random(seed), told)
        for what, count in told.items():
            self.assertGreater(count, 10, what)

    def play(self, rng, told):
        """Let copies edit, send and take in some order; check that all agree at last."""
        desk = Desk(text_of("= a", *["|" + rng.choice("abc") for _ in range(rng.randrange(5))]), "a")
        copies = {author: Copy(author, desk.program(), 0) for author in self.authors}
        naive = {author: NaiveCopy(author, desk.program()) for author in self.authors}
        letters = {}
        for _ in range(rng.randrange(100)):
            self.step(rng, desk, copies, naive, letters, told)
        # All letters arrive, and nothing new is written.
        for author in self.authors:
            self.post(desk, copies, naive, letters, author, told)
        for author in self.authors:
            while self.take(desk, copies[author], naive[author], told):
                pass
        for author in self.authors:
            self.assertIsNone(copies[author].sent)
            letters[author] = copies[author].send()
            naive[author].send()
            self.post(desk, copies, naive, letters, author, told)
            for other in self.authors:
                while self.take(desk, copies[other], naive[other], told):
                    pass
        for author in self.authors:
            self.assertEqual(copies[author].texts(), desk.program())
            self.assertEqual(copies[author].version, desk.version())
            self.assertFalse(any(map(is_touched, copies[author].waiting)))

    def step(self, rng, desk, copies, naive, letters, told):
        author = rng.choice(self.authors)
        copy = copies[author]
        deed = rng.choice(["edit", "send", "post", "take"])
        if deed == "edit":
            edits = [edit if rng.random() < 0.3 else SAME
                     for edit in some_edits(rng, len(copy.texts()))]
            expected = edited(copy.texts(), edits)
            copy.edit(edits)
            naive[author].waiting = compose(naive[author].waiting, edits)
            self.assertEqual(copy.texts(), expected)
        elif deed == "send" and letters.get(author) is None:
            # No new letter before the own edits of the last one are taken or refused.
            if all(own != author for own, _ in desk.since(copy.version)):
                letters[author] = copy.send()
                naive[author].send()
        elif deed == "post":
            self.post(desk, copies, naive, letters, author, told)
        elif deed == "take":
            self.take(desk, copy, naive[author], told)
        self.same(copy, naive[author])

    def same(self, copy, naive):
        self.assertEqual((copy.base, copy.sent, copy.waiting),
                         (naive.base, naive.sent, naive.waiting))

    def post(self, desk, copies, naive, letters, author, told):
        """Submit the letter of an author, if there is one."""
        letter = letters.pop(author, None)
        if letter is not None:
            try:
                desk.submit(*letter)
            except WeftError:
                told["refused"] += 1
                copies[author].refused()
                naive[author].sent = None
                naive[author].waiting = untouched(len(naive[author].base))

    def take(self, desk, copy, naive, told):
        """Let a copy take the next edits; return whether there were any."""
        following = desk.since(copy.version)
        if following:
            found = copy.take(*following[0])
            self.assertEqual(found, naive.take(*following[0]))
            self.same(copy, naive)
            told[found] += 1
        return following != []
