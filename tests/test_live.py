import copy
import random
import unittest

from healwires.contents import empty
from healwires.errors import InvalidContents, InvalidDeed, InvalidLink, NothingToRedo, NothingToUndo, Unlike
from healwires.harm import harm
from healwires.live import LiveLink, is_deed
from healwires.texts import text_of_contents, text_of_far
from model import (
    BAD_CONTENTS, BAD_EVENTS, BAD_FARS, BAD_LINKS, ODD_VALUES, all_contents, all_events, check_errors, drawn_contents,
    expect, harms, lists_in, shares_lists, some_contents_of, some_sound_links, step, walk_far,
)

LINK = (3, 2, 4, 4)
MIXED = ((0, 2), (1, ("old", 3), True), (1, 0, 2), (0, 1))
REST = ((0, 0), (1, None, False), (0, 0, 0), (0, 0))
BIG = 10 ** 29
SOUND = [(1, 1, 1, 1), (1, 1, 2, 2), (2, 1, 2, 1), (2, 1, 3, 2), (1, 2, 1, 2), (2, 2, 2, 2)]
UNSOUND = [(2, 1, 1, 1), (1, 2, 1, 1), (3, 2, 2, 2), (BIG, 1, BIG - 1, 1), (1, BIG, 1, BIG - 1)]


class Kept:
    """What a live link has to tell, by single steps; all of it is kept for each deed that can be taken back."""

    def __init__(self, link, start):
        self.link, self.now, self.ahead, self.undone = link, (start, [], 0, 0, []), [], []

    def do(self, deed):
        contents, wrongs, turns, faults, log = self.now
        self.ahead.append(self.now)
        self.undone = []
        told = walk_far(self.link, contents, far_of(deed)) if deed[0] != "fault" else (deed[1], [], 0)
        self.now = (
            told[0], wrongs + told[1], turns + told[2], faults + (deed[0] == "fault"), log + [copy.deepcopy(deed)])

    def undo(self):
        self.undone.append(self.now)
        self.now = self.ahead.pop()

    def redo(self):
        self.ahead.append(self.now)
        self.now = self.undone.pop()

    def copy(self):
        other = Kept(self.link, None)
        other.now, other.ahead, other.undone = self.now, list(self.ahead), list(self.undone)
        return other


FARS = {}


def far_of(deed):
    """The far run that a deed does, which is no fault."""
    if deed[0] == "event":
        return [([deed[1]], 1)]
    return deed[1] if deed[0] == "run" else FARS[deed[1]]


def some_deed(link, contents, draw, known):
    """A deed that can be done now, drawn."""
    word = draw.choice(["event", "event", "run", "run", "fault", "read"])
    if word == "fault":
        return ("fault", draw.choice(known) if draw.random() < 0.8 else contents)
    found = [event for event in all_events() if step(link, contents, event)]
    if word == "event":
        return ("event", draw.choice(found))
    far, now = [], contents
    for _ in range(draw.randint(0, 4)):
        item = ([draw.choice(all_events()) for _ in range(draw.randint(1, 2))], draw.choice([0, 1, 1, 2]))
        told = walk_far(link, now, [item])
        if told:
            far.append(item)
            now = told[0]
    if word == "run":
        return ("run", far)
    FARS[text_of_far(far)] = far
    return ("read", text_of_far(far))


class Live(unittest.TestCase):
    """Points 73, 74 and 75."""

    def test_the_examples_of_the_document(self):
        live = LiveLink((2, 1, 2, 1), empty((2, 1, 2, 1), 0))
        self.assertIsNone(live.do(("read", "send x2, bring new x2, hear 0")))
        self.assertEqual(
            [live.told(), live.turns(), live.wrongs(), live.harm_now(), live.is_safe()],
            ["1 0 | 0 none open | 0 0 0 | 0 0", 1, [], 0, True])
        bad = ((0, 0), (1, None, False), (0, 2, 0), (1, 0))
        live.do(("fault", bad))
        self.assertEqual(
            [live.harm_now(), live.harm_after(("event", ("hear", 0))), is_deed(live, ("event", ("send",))),
             is_deed(live, ("run", [([("bring", "zero")], 2)])), is_deed(live, ("read", "bring zero x3"))],
            [2, 1, False, True, False])
        live.do(("run", [([("bring", "zero")], 2)]))
        self.assertEqual(
            [live.wrongs(), live.harm_now(), live.faults(), live.undo(), live.wrongs(), len(live.log()),
             live == live.copy()],
            [["made"], 1, 1, None, [], 2, True])

    def check(self, live, kept, told):
        contents, wrongs, turns, faults, log = kept.now
        self.assertEqual(live.link(), kept.link)
        self.assertEqual(live.contents(), contents)
        self.assertEqual(live.told(), text_of_contents(kept.link, contents))
        self.assertEqual([live.wrongs(), live.turns(), live.faults(), live.log()], [wrongs, turns, faults, log])
        self.assertEqual(live.harm_now(), told[contents])
        self.assertIs(live.is_safe(), told[contents] == 0)

    def test_all_that_is_done_undone_and_done_again(self):
        draw, counts = random.Random(741), {}
        for link in SOUND:
            told = harms(link)
            known = list(told)
            for _ in range(40):
                start = draw.choice(known)
                pairs = [(LiveLink(link, start), Kept(link, start))]
                for _ in range(40):
                    place = draw.randrange(len(pairs))
                    live, kept = pairs[place]
                    word = draw.choice(["do", "do", "do", "undo", "undo", "redo", "copy", "wrong"])
                    counts[word] = counts.get(word, 0) + 1
                    if word == "do":
                        deed = some_deed(link, kept.now[0], draw, known)
                        self.assertIs(is_deed(live, deed), True)
                        ahead = live.log()
                        kept.do(deed)
                        self.assertEqual(live.harm_after(deed), told[kept.now[0]])
                        self.assertEqual(live.log(), ahead)
                        self.assertIsNone(live.do(deed))
                    elif word == "undo" and kept.ahead:
                        kept.undo()
                        self.assertIsNone(live.undo())
                    elif word == "redo" and kept.undone:
                        kept.redo()
                        self.assertIsNone(live.redo())
                    elif word == "copy" and len(pairs) < 3:
                        pairs.append((live.copy(), kept.copy()))
                        self.assertEqual(pairs[-1][0], live)
                    elif word == "wrong":
                        self.nothing_of_it(live, kept, draw)
                    for one, other in pairs:
                        self.check(one, other, told)
                    for one, kept_one in pairs:
                        for other, kept_other in pairs:
                            equal = (kept_one.now[0], kept_one.now[4]) == (kept_other.now[0], kept_other.now[4])
                            self.assertIs(one == other, equal)
                            self.assertIs(one != other, not equal)
        self.assertGreater(min(counts.values()), 500)

    def nothing_of_it(self, live, kept, draw):
        """What is refused changes nothing."""
        for deed in (("event", draw.choice(all_events())), ("run", [([draw.choice(all_events())], 3)]), None):
            possible = deed is not None and walk_far(kept.link, kept.now[0], far_of(deed)) is not None
            self.assertIs(is_deed(live, deed), possible)
            if not possible:
                for function in (live.do, live.harm_after):
                    with self.assertRaises(InvalidDeed) as caught:
                        function(deed)
                    self.assertIs(caught.exception.value, deed)
        if not kept.ahead:
            self.assertRaises(NothingToUndo, live.undo)
        if not kept.undone:
            self.assertRaises(NothingToRedo, live.redo)

    def test_wrong_steps_between_faults(self):
        draw = random.Random(751)
        for link in SOUND:
            known = all_contents(link)
            for _ in range(30):
                live = LiveLink(link, draw.choice(known))
                ahead, many = live.harm_now(), 0
                for _ in range(60):
                    found = [event for event in all_events() if step(link, live.contents(), event)]
                    before = len(live.wrongs())
                    live.do(("event", draw.choice(found)))
                    many += len(live.wrongs()) - before
                    self.assertLessEqual(many + live.harm_now(), ahead)
                    if live.is_safe():
                        ahead, many = 0, 0

    def test_each_kind_of_deed(self):
        live = LiveLink(LINK, MIXED)
        deeds = [
            ("run", []), ("read", ""), ("event", ("bring", "one")), ("run", [([("bring", "one"), ("send",)], 1)]),
            ("read", "bring new + send, hear 1 x0"), ("fault", MIXED), ("fault", REST), ("run", [([("send",)], 0)]),
        ]
        for many, deed in enumerate(deeds):
            self.assertIs(is_deed(live, deed), True)
            live.do(deed)
            self.assertEqual(live.log(), deeds[:many + 1])
        self.assertEqual((live.faults(), live.contents(), live.turns()), (2, REST, 0))
        for many in range(len(deeds)):
            live.undo()
        self.assertEqual((live.log(), live.contents()), ([], MIXED))
        self.assertRaises(NothingToUndo, live.undo)
        for _ in deeds:
            live.redo()
        self.assertEqual((live.log(), live.contents()), (deeds, REST))
        self.assertRaises(NothingToRedo, live.redo)

    def test_doing_something_behind_undo(self):
        live = LiveLink((1, 1, 1, 1), REST)
        live.do(("event", ("send",)))
        live.do(("event", ("bring", "new")))
        live.undo()
        live.undo()
        with self.assertRaises(InvalidDeed):
            live.do(("event", ("hear", 0)))
        live.redo()
        live.do(("event", ("drop", "new")))
        self.assertRaises(NothingToRedo, live.redo)
        self.assertEqual(live.log(), [("event", ("send",)), ("event", ("drop", "new"))])

    def test_nothing_to_undo_or_redo_has_no_field(self):
        live = LiveLink((1, 1, 1, 1), REST)
        for function, error in ((live.undo, NothingToUndo), (live.redo, NothingToRedo)):
            with self.assertRaises(error) as caught:
                function()
            self.assertIs(caught.exception.__class__, error)
            self.assertFalse(hasattr(caught.exception, "value"))

    def test_equal_or_not(self):
        live, other = LiveLink((1, 1, 1, 1), REST), LiveLink((1, 1, 1, 1), REST)
        self.assertTrue(live == other)
        live.do(("event", ("send",)))
        self.assertFalse(live == other)
        other.do(("read", "send"))
        self.assertEqual(live.contents(), other.contents())
        self.assertFalse(live == other)
        live.do(("fault", REST))
        live.undo()
        other.undo()
        other.do(("event", ("send",)))
        # What can be done again is of no account.
        self.assertTrue(live == other)
        self.assertFalse(live == LiveLink((1, 1, 1, 2), REST))
        self.assertFalse(LiveLink((1, 1, 1, 2), REST) == LiveLink((1, 1, 1, 1), REST))
        self.assertFalse(LiveLink((1, 1, 1, 1), REST) == LiveLink((1, 1, 1, 1), ((1, 0),) + REST[1:]))
        for value in [value for value in ODD_VALUES if not isinstance(value, LiveLink)]:
            self.assertFalse(live == value)
            self.assertTrue(value != live)
        done = LiveLink((1, 1, 1, 1), ((0, 0), (1, None, True), (0, 0, 0), (0, 0)))
        for one in (live, done):
            one.do(("fault", REST))
        self.assertFalse(live == done)

    def test_copies_go_their_own_way(self):
        live = LiveLink((1, 1, 1, 1), REST)
        live.do(("event", ("send",)))
        live.do(("event", ("bring", "new")))
        live.undo()
        other = live.copy()
        self.assertIsNot(other, live)
        self.assertIs(other.__class__, LiveLink)
        other.redo()
        self.assertEqual((len(live.log()), len(other.log())), (1, 2))
        live.undo()
        live.do(("fault", REST))
        other.undo()
        other.undo()
        self.assertEqual((live.log(), other.log()), ([("fault", REST)], []))
        other.redo()
        other.redo()
        self.assertEqual(other.log(), [("event", ("send",)), ("event", ("bring", "new"))])

    def test_great_links(self):
        draw = random.Random(752)
        links = some_sound_links(draw)
        for _ in range(100):
            link = next(links)
            start, other = some_contents_of(link, draw), some_contents_of(link, draw)
            live = LiveLink(link, start)
            self.assertEqual(live.harm_now(), harm(link, start))
            self.assertEqual(live.harm_after(("fault", other)), harm(link, other))
            live.do(("fault", other))
            self.assertEqual(live.told(), text_of_contents(link, other))
        live = LiveLink((BIG, BIG, BIG, BIG), REST)
        live.do(("read", "send + bring new x" + str(BIG) + ", hear 0 + send + bring new x" + str(BIG - 1) + ", hear 0"))
        self.assertEqual((live.turns(), live.wrongs(), live.contents()), (1, [], ((1, 0), (0, None, False)) + REST[2:]))

    def test_drawn_contents_are_taken(self):
        for link in SOUND:
            for contents in drawn_contents(link, 30):
                self.assertEqual(LiveLink(link=link, start=contents).contents(), contents)


class Lists(unittest.TestCase):
    """Point 2: lists that are handed in or told may be changed."""

    def test_lists_handed_in(self):
        live, events = LiveLink((2, 1, 2, 1), REST), [("send",)]
        far = [(events, 2), ([("drop", "new")], 1)]
        deed = ("run", far)
        live.do(deed)
        copied = live.copy()
        events.append(("send",))
        far.append(None)
        for one in (live, copied):
            self.assertEqual(one.log(), [("run", [([("send",)], 2), ([("drop", "new")], 1)])])
            one.undo()
            one.redo()
            self.assertEqual(one.contents(), REST[:2] + ((1, 0, 0), (0, 0)))

    def test_lists_told(self):
        live = LiveLink((2, 1, 2, 1), ((0, 0), (1, None, False), (0, 2, 0), (1, 0)))
        live.do(("run", [([("bring", "zero")], 1), ([("bring", "zero")], 1)]))
        log = live.log()
        self.assertFalse(shares_lists(log, live.log(), live.copy().log()))
        log[0][1][0][0].append(("send",))
        log[0][1].clear()
        log.append(None)
        live.wrongs().append("lost")
        self.assertEqual(live.log(), [("run", [([("bring", "zero")], 1), ([("bring", "zero")], 1)])])
        self.assertEqual(live.wrongs(), ["made"])
        again = live.log()
        live.undo()
        live.do(again[0])
        self.assertFalse(shares_lists(again, live.log()))

    def test_one_list_twice(self):
        events = [("send",)]
        live = LiveLink((2, 1, 2, 1), REST)
        live.do(("run", [(events, 1), (events, 1)]))
        self.assertFalse(shares_lists(live.log()))
        self.assertEqual(len(lists_in(live.log())), 4)

    def test_arguments_are_not_changed(self):
        live = LiveLink((2, 1, 2, 1), REST)
        for deed in (("run", [([("send",)], 2)]), ("event", ("send",)), ("fault", REST), ("read", "send")):
            before = copy.deepcopy(deed)
            is_deed(live, deed)
            live.harm_after(deed)
            live.copy().do(deed)
            self.assertEqual(deed, before)
        self.assertEqual(live.log(), [])


class Refused(unittest.TestCase):
    """Points 2, 5, 73 to 75."""

    def test_errors(self):
        check_errors(
            self, LiveLink, ["link", "start"], [LINK, MIXED],
            [(InvalidLink, BAD_LINKS), (InvalidContents, BAD_CONTENTS)])
        for link in UNSOUND:
            expect(self, LiveLink, ["link", "start"], [link, REST], Unlike, link)
            expect(self, LiveLink, ["link", "start"], [link, None], InvalidContents, None)

    def test_what_is_no_live_link(self):
        for value in [value for value in ODD_VALUES if not isinstance(value, LiveLink)] + [LiveLink]:
            for deed in (None, ("run", [])):
                with self.assertRaises(InvalidDeed) as caught:
                    is_deed(value, deed)
                self.assertIs(caught.exception.value, value)
                with self.assertRaises(InvalidDeed):
                    is_deed(live=value, value=deed)

    def test_what_is_no_deed(self):
        live = LiveLink(LINK, MIXED)
        deeds = ODD_VALUES + [live, (live, live), ("event", live), ["event", ("bring", "one")], ("event",)]
        deeds += [("event", ("bring", "one"), 1), ("events", ("bring", "one")), ("do", []), (True, []), (None, MIXED)]
        deeds += [("event", value) for value in BAD_EVENTS + [("send",), ("hear", 0), ("drop", "zero")]]
        deeds += [("run", value) for value in BAD_FARS + [[([("hear", 1)], 2)], [([("send",)], 1)], MIXED, "", "send"]]
        deeds += [("fault", value) for value in BAD_CONTENTS + [[], ("sender",)]]
        deeds += [("read", value) for value in [value for value in ODD_VALUES if value != ""] + [
            "hear 1 x2", "bring one x1", "bring one x", "bring  one", "bring one,drop one", "0 2", "double one", []]]
        for deed in deeds:
            self.assertIs(is_deed(live, deed), False, deed)
            for function in (live.do, live.harm_after):
                with self.assertRaises(InvalidDeed) as caught:
                    function(deed)
                self.assertIs(caught.exception.__class__, InvalidDeed)
                self.assertIs(caught.exception.value, deed)
            with self.assertRaises(InvalidDeed):
                live.do(deed=deed)
        self.assertEqual((live.log(), live.contents()), ([], MIXED))
        self.assertRaises(NothingToUndo, live.undo)
        self.assertRaises(NothingToRedo, live.redo)
        self.assertIs(is_deed(live, ("read", "bring one x2")), True)

    def test_what_is_refused_forgets_nothing(self):
        live = LiveLink(LINK, MIXED)
        live.do(("event", ("bring", "one")))
        live.undo()
        with self.assertRaises(InvalidDeed):
            live.do(("event", ("send",)))
        live.redo()
        self.assertEqual(live.log(), [("event", ("bring", "one"))])


if __name__ == "__main__":
    unittest.main()
