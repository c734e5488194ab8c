import random
import unittest

from healwires.contents import empty, is_contents, mirrored
from healwires.errors import InvalidContents, InvalidEvent, InvalidLink, Unlike
from healwires.faults import befallen, can_befall, faults_of, is_fault, rise, worst_fault, worth
from healwires.harm import harm
from model import (
    BAD_CONTENTS, BAD_LINKS, KINDS_OF_FAULTS, ODD_VALUES, all_faults, check_errors, check_unchanged, drawn_contents,
    expect, harms, some_contents_of, some_sound_links,
)
import model

LINK = (3, 2, 4, 4)
MIXED = ((0, 2), (1, ("old", 3), True), (1, 0, 2), (0, 1))
BIG = 10 ** 29
SOUND = [
    (1, 1, 1, 1), (1, 1, 2, 2), (2, 1, 2, 1), (2, 1, 3, 2), (1, 2, 1, 2), (1, 2, 2, 3), (2, 2, 2, 2), (1, 1, 3, 3),
    (3, 1, 3, 1), (1, 3, 1, 3), (1, 1, 5, 6),
]
UNSOUND = [(2, 1, 1, 1), (1, 2, 1, 1), (3, 2, 2, 2), (BIG, 1, BIG - 1, 1), (1, BIG, 1, BIG - 1)]
START = ((0, 0), (1, None, False), (0, 0, 0), (0, 0))
BAD_FAULTS = ODD_VALUES + [
    ["sender"], ["copy", 0], ("copy",), ("copy", 2), ("copy", -1), ("copy", True), ("copy", "zero"), ("copy", 0, 0),
    ("answer",), ("answer", False), ("answer", None), ("turn",), ("turn", 0), ("turn", "old"), ("turn", ["new"]),
    ("swap", "0"), ("swap", 2), ("swap", True), ("sender", 0), ("receiver", 1), ("receiver", None), ("heard",),
    ("heard", -1), ("heard", True), ("heard", "0"), ("lot", None), ("lot", -1), ("lot", False), ("lot", ("old", 1)),
    (("sender",),), ("Sender",), (0, "copy"), ("send",), ("double", "new"), (None, 0), (["copy"], 0),
]
BAD_KINDS_OF_FAULTS = ODD_VALUES + ["Copy", "cop", ("copy",), ["heard"], "drop", "lost", "new"]


class Faults(unittest.TestCase):
    """Point 49 and the table."""

    def test_the_examples_of_the_document(self):
        link, start = (2, 2, 2, 2), empty((2, 2, 2, 2), 0)
        ready = ((0, 0), (1, None, False), (2, 0, 0), (0, 2))
        self.assertEqual(
            [befallen(link, ready, ("sender",)), rise(link, ready, ("sender",)), rise(link, ready, ("receiver",)),
             worst_fault(link, start), can_befall(link, ready, ("copy", 0))],
            [((1, 0), (1, None, False), (0, 2, 0), (0, 2)), 3, 1, ("receiver",), False])
        self.assertEqual(
            [faults_of((1, 1, 1, 1), empty((1, 1, 1, 1), 0)), befallen(link, ready, ("turn", "new")),
             befallen(link, ready, ("lot", 1)), worth((1, 1, 1, 1), "heard")],
            [[("answer", 0), ("answer", 1), ("copy", 0), ("copy", 1), ("heard", 0), ("lot", 0), ("receiver",),
              ("sender",)],
             ((0, 0), (1, None, False), (1, 0, 1), (0, 2)), ((0, 0), (1, ("old", 1), False), (2, 0, 0), (0, 2)), 0])

    def test_what_is_a_fault(self):
        for fault in all_faults((1, 1, 5, 6)) + [("heard", BIG), ("lot", BIG)]:
            self.assertIs(is_fault(fault), True, fault)
        for value in BAD_FAULTS:
            self.assertIs(is_fault(value), False, value)
            self.assertIs(can_befall(LINK, MIXED, value), False, value)

    def test_all_contents_of_small_links(self):
        seen = {kind: [0, 0] for kind in KINDS_OF_FAULTS}
        for link in SOUND + UNSOUND[:3]:
            for contents in drawn_contents(link, 500):
                found = []
                for fault in all_faults(link) + [("heard", link[3]), ("lot", link[2]), ("heard", BIG), ("lot", BIG)]:
                    told = model.befallen(link, contents, fault)
                    self.assertIs(can_befall(link, contents, fault), told is not None, (link, contents, fault))
                    seen[fault[0]][told is not None] += 1
                    if told is None:
                        with self.assertRaises(InvalidEvent) as caught:
                            befallen(link, contents, fault)
                        self.assertIs(caught.exception.value, fault)
                        continue
                    later = befallen(link, contents, fault)
                    self.assertEqual(later, told, (link, contents, fault))
                    self.assertTrue(is_contents(link, later))
                    if fault[0] not in ("heard", "lot") or fault[1] in (0, link[3 if fault[0] == "heard" else 2] - 1):
                        found.append(fault)
                self.assertEqual(faults_of(link, contents), found)
        for kind, (never, often) in seen.items():
            self.assertTrue(often > 100 and (never > 100 or kind in ("sender", "receiver")), kind)

    def test_great_links(self):
        link = (BIG, BIG - 1, BIG + 2, BIG + 3)
        full = ((1, 5), (0, ("new", BIG), True), (BIG - 9, 4, 5), (BIG - 4, 3))
        for fault, later in (
            (("turn", "new"), (full[:2] + ((BIG - 10, 5, 5),) + full[3:])),
            (("turn", "zero"), (full[:2] + ((BIG - 9, 3, 6),) + full[3:])),
            (("turn", "one"), (full[:2] + ((BIG - 9, 5, 4),) + full[3:])),
            (("swap", 0), full[:3] + ((BIG - 5, 4),)), (("swap", 1), full[:3] + ((BIG - 3, 2),)),
            (("sender",), ((0, 5), (0, ("old", BIG), True), (0, 4, BIG - 4)) + full[3:]),
            (("receiver",), (full[0], (1, None, True)) + full[2:]),
            (("heard", 0), ((1, 0),) + full[1:]), (("heard", BIG + 2), ((1, BIG + 2),) + full[1:]),
            (("lot", 0), (full[0], (0, None, True)) + full[2:]),
            (("lot", BIG + 1), (full[0], (0, ("old", BIG + 1), True)) + full[2:]),
        ):
            self.assertIs(can_befall(link, full, fault), True)
            self.assertEqual(befallen(link, full, fault), later, fault)
        for fault in (("copy", 0), ("copy", 1), ("answer", 0), ("answer", 1), ("heard", BIG + 3), ("lot", BIG + 2)):
            self.assertIs(can_befall(link, full, fault), False)
        wider = (BIG + 1, BIG, BIG + 2, BIG + 3)
        for fault, later in (
            (("copy", 0), full[:2] + ((BIG - 9, 5, 5),) + full[3:]),
            (("copy", 1), full[:2] + ((BIG - 9, 4, 6),) + full[3:]),
            (("answer", 0), full[:3] + ((BIG - 3, 3),)), (("answer", 1), full[:3] + ((BIG - 4, 4),)),
        ):
            self.assertEqual(befallen(wider, full, fault), later)
        self.assertEqual(
            faults_of(link, full),
            [("heard", 0), ("heard", BIG + 2), ("lot", 0), ("lot", BIG + 1), ("receiver",), ("sender",), ("swap", 0),
             ("swap", 1), ("turn", "new"), ("turn", "one"), ("turn", "zero")])

    def test_zero_and_the_greatest_number_each_once(self):
        for link, heards, lots in (
            ((1, 1, 1, 1), [0], [0]), ((1, 1, 1, 2), [0, 1], [0]), ((1, 1, 2, 1), [0], [0, 1]),
            ((1, 1, 9, 7), [0, 6], [0, 8]), ((1, 1, BIG, BIG), [0, BIG - 1], [0, BIG - 1]),
        ):
            found = faults_of(link, START)
            self.assertEqual([fault[1] for fault in found if fault[0] == "heard"], heards)
            self.assertEqual([fault[1] for fault in found if fault[0] == "lot"], lots)
            self.assertEqual(found, sorted(found))


class Rises(unittest.TestCase):
    """Point 50."""

    def test_all_contents_of_small_links(self):
        for link in SOUND:
            told, greatest = harms(link), {kind: -3 for kind in KINDS_OF_FAULTS}
            for contents in told:
                best = -9
                for fault in all_faults(link):
                    later = model.befallen(link, contents, fault)
                    if later is None:
                        continue
                    more = told[later] - told[contents]
                    self.assertEqual(rise(link, contents, fault), more)
                    self.assertLessEqual(more, worth(link, fault[0]))
                    greatest[fault[0]] = max(greatest[fault[0]], more)
                    best = max(best, more)
                found = [fault for fault in faults_of(link, contents) if rise(link, contents, fault) == best]
                self.assertEqual(worst_fault(link, contents), found[0], (link, contents))
            if link[0] == link[2] and link[1] == link[3]:
                self.assertEqual({kind: worth(link, kind) for kind in KINDS_OF_FAULTS}, greatest)

    def test_worths(self):
        worths = dict(copy=2, answer=2, turn=2, swap=2, sender=3, receiver=1, heard=2, lot=2)
        for link, none in (
            ((2, 2, 2, 2), []), ((1, 1, 1, 1), ["heard", "lot"]), ((1, 2, 1, 2), ["lot"]), ((2, 1, 2, 1), ["heard"]),
            ((BIG,) * 4, []), ((1, BIG, 1, BIG), ["lot"]), ((1, 1, 2, 2), []),
        ):
            for kind, many in worths.items():
                self.assertEqual(worth(link, kind), 0 if kind in none else many)

    def test_great_links(self):
        draw, below, above = random.Random(99), 0, 0
        links = some_sound_links(draw)
        for _ in range(600):
            link = next(links)
            contents = some_contents_of(link, draw)
            found = faults_of(link, contents)
            between = [("heard", draw.randrange(link[3])), ("lot", draw.randrange(link[2]))]
            rises = []
            for fault in found + between:
                later = befallen(link, contents, fault)
                self.assertTrue(is_contents(link, later))
                rises.append(harm(link, later) - harm(link, contents))
                self.assertEqual(rise(link, contents, fault), rises[-1])
                self.assertLessEqual(rises[-1], worth(link, fault[0]))
                below, above = below + (rises[-1] < 0), above + (rises[-1] > 1)
            self.assertEqual(worst_fault(link, contents), (found + between)[rises.index(max(rises))])
            other = mirrored(link, contents)
            self.assertEqual(rise(link, other, worst_fault(link, other)), max(rises))
        self.assertGreater(min(below, above), 50)

    def test_numbers_at_their_bounds(self):
        link = (BIG, BIG, BIG, BIG)
        contents = ((0, 0), (1, None, False), (0, 4, 0), (3, 0))
        for many, more in ((BIG - 4, 0), (BIG - 3, 2), (BIG - 1, 2), (0, 0)):
            self.assertEqual(rise(link, contents, ("heard", many)), more)
        for many, more in ((BIG - 5, 0), (BIG - 4, 2), (BIG - 1, 2), (0, 0)):
            self.assertEqual(rise(link, contents, ("lot", many)), more)
        self.assertEqual(rise(link, ((0, BIG - 3), (1, None, False), (0, 4, 0), (3, 0)), ("heard", 0)), -2)
        self.assertEqual(worst_fault(link, contents), ("heard", BIG - 1))


class Refused(unittest.TestCase):
    """Points 2, 5, 49 and 50."""

    def test_errors(self):
        links, contents = (InvalidLink, BAD_LINKS), (InvalidContents, BAD_CONTENTS)
        triple = ["link", "contents", "fault"]
        # What can't befall MIXED, too: its wire there is full, no answer of bit 0 lies there, no old copy of bit 0.
        none = [("copy", 0), ("copy", 1), ("turn", "zero"), ("swap", 0), ("heard", 4), ("lot", 4), ("lot", BIG)]
        faults = (InvalidEvent, BAD_FAULTS + none)
        check_errors(self, can_befall, triple[:2] + ["value"], [LINK, MIXED, None], [links, contents, None])
        for function in (befallen, rise):
            check_errors(self, function, triple, [LINK, MIXED, ("turn", "one")], [links, contents, faults])
        for function in (faults_of, worst_fault):
            check_errors(self, function, triple[:2], [LINK, MIXED], [links, contents])
        check_errors(
            self, worth, ["link", "kind"], [LINK, "sender"], [links, (InvalidEvent, BAD_KINDS_OF_FAULTS)])
        self.assertIs(is_fault(value=("sender",)), True)

    def test_a_sound_link_is_wanted_behind_all_other_errors(self):
        triple = ["link", "contents", "fault"]
        for link in UNSOUND:
            expect(self, rise, triple, [link, START, ("sender",)], Unlike, link)
            expect(self, rise, triple, [link, START, ("swap", 0)], InvalidEvent, ("swap", 0))
            expect(self, rise, triple, [link, None, ("swap", 0)], InvalidContents, None)
            expect(self, worth, ["link", "kind"], [link, "sender"], Unlike, link)
            expect(self, worth, ["link", "kind"], [link, "send"], InvalidEvent, "send")
            expect(self, worst_fault, triple[:2], [link, START], Unlike, link)
            expect(self, worst_fault, triple[:2], [link, 0], InvalidContents, 0)

    def test_other_functions_take_every_link(self):
        for link in UNSOUND:
            self.assertIs(can_befall(link, START, ("copy", 1)), True)
            self.assertEqual(befallen(link, START, ("answer", 1)), START[:3] + ((0, 1),))
            self.assertEqual(faults_of(link, START)[:4], [("answer", 0), ("answer", 1), ("copy", 0), ("copy", 1)])

    def test_new_lists(self):
        check_unchanged(self, faults_of, LINK, MIXED)
        check_unchanged(self, worst_fault, LINK, MIXED)
        for fault in faults_of(LINK, MIXED):
            check_unchanged(self, befallen, LINK, MIXED, fault)
            check_unchanged(self, rise, LINK, MIXED, fault)


if __name__ == "__main__":
    unittest.main()
