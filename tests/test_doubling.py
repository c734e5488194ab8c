import random
import unittest

from healwires.contents import EVENTS, empty, is_contents, is_far_of, is_far_run
from healwires.doubling import DOUBLINGS, behind_doubling, doubling_run, is_doubling_endless
from healwires.endless import endless_run, is_endless
from healwires.errors import InvalidContents, InvalidEvent, InvalidLink
from healwires.runs import can_go, can_go_far, far_gone
from healwires.steps import behind, is_possible
from model import (
    BAD_CONTENTS, BAD_EVENTS, BAD_FARS, BAD_LINKS, all_contents, all_events, check_errors, check_unchanged,
    drawn_contents, kinds_for_ever, shares_lists, some_contents_of, step, walk_far,
)

LINK = (3, 2, 4, 4)
MIXED = ((0, 2), (1, ("old", 3), True), (1, 0, 2), (0, 1))
BIG = 10 ** 29
LINKS = [
    (2, 1, 1, 1), (2, 1, 2, 1), (2, 1, 3, 2), (1, 2, 1, 1), (1, 2, 1, 2), (1, 2, 2, 3), (2, 2, 2, 2), (3, 2, 3, 2),
    (1, 3, 2, 3), (1, 3, 1, 4),
]
ONES = [(1, 1, 1, 1), (1, 1, 2, 1), (1, 1, 1, 2), (1, 1, 3, 3), (1, 1, BIG, BIG)]


class Events(unittest.TestCase):
    """Point 24: the two further events."""

    def test_all_events_of_small_links(self):
        for link in LINKS[:8] + ONES[:2]:
            for contents in all_contents(link):
                for event in all_events(doubling=True):
                    told = step(link, contents, event)
                    if told is None:
                        with self.assertRaises(InvalidEvent) as caught:
                            behind_doubling(link, contents, event)
                        self.assertIs(caught.exception.value, event)
                        continue
                    later = behind_doubling(link, contents, event)
                    self.assertEqual(later, told[0])
                    self.assertTrue(is_contents(link, later))
                    if event[0] not in ("double", "repeat"):
                        self.assertEqual(later, behind(link, contents, event))

    def test_they_are_no_events_elsewhere(self):
        contents = ((0, 0), (1, None, False), (1, 0, 0), (1, 0))
        for event in (("double", "new"), ("repeat", 0)):
            behind_doubling(LINK, contents, event)
            self.assertFalse(is_possible(LINK, contents, event))
            self.assertFalse(can_go(LINK, contents, [event]))
            self.assertFalse(can_go_far(LINK, contents, [([event], 1)]))

    def test_full_wires(self):
        link = (BIG, BIG, 1, 1)
        contents = ((0, 0), (1, None, False), (1, BIG - 2, 0), (BIG - 1, 0))
        full = behind_doubling(link, behind_doubling(link, contents, ("double", "new")), ("repeat", 0))
        self.assertEqual(full[2:], ((2, BIG - 2, 0), (BIG, 0)))
        for event in (("double", "new"), ("double", "zero"), ("repeat", 0)):
            with self.assertRaises(InvalidEvent):
                behind_doubling(link, full, event)
        for event in (("double", "one"), ("repeat", 1)):
            with self.assertRaises(InvalidEvent):
                behind_doubling(link, contents, event)

    def test_far_runs_are_told_by_many_times_at_once(self):
        draw = random.Random(14)
        for link in [(9, 12, 8, 11), (30, 3, 41, 50), (4, 30, 50, 41), (2, 2, 3, 3), (40, 40, 40, 40)]:
            for _ in range(500):
                contents = some_contents_of(link, draw)
                events, later = [], contents
                for _ in range(draw.randint(1, 6)):
                    possible = [event for event in all_events(doubling=True) if step(link, later, event)]
                    events.append(draw.choice(possible))
                    later = step(link, later, events[-1])[0]
                far = [(events, draw.choice([1, 2, 3, 7, 20, 60]))]
                told, model = far_gone(link, contents, far), walk_far(link, contents, far)
                self.assertEqual(told is None, model is None)
                if told is not None:
                    self.assertEqual(told[0], model[0])
        link = (BIG, BIG, BIG, BIG)
        contents = ((0, 0), (1, None, False), (0, 1, 0), (1, 0))
        both = [("double", "zero"), ("repeat", 0)]
        self.assertEqual(far_gone(link, contents, [(both, BIG - 1)])[0][2:], ((0, BIG, 0), (BIG, 0)))
        self.assertIsNone(far_gone(link, contents, [(both, BIG)]))
        falling = [("drop", "zero"), ("double", "zero"), ("drop", "zero")]
        full = ((0, 0), (1, None, False), (0, BIG, 0), (1, 0))
        self.assertEqual(far_gone(link, full, [(falling, BIG - 1)])[0][2], (0, 1, 0))
        self.assertIsNone(far_gone(link, full, [(falling, BIG)]))


class Endless(unittest.TestCase):
    """Points 24 and 25."""

    def check(self, link, contents):
        told = doubling_run(link, contents)
        self.assertIsInstance(told, tuple)
        ahead, lap = told
        self.assertTrue(is_far_of(ahead, EVENTS + DOUBLINGS) and is_far_of(lap, EVENTS + DOUBLINGS))
        self.assertLessEqual(len(ahead) + len(lap), 30)
        self.assertFalse(shares_lists(told))
        self.assertIs(is_doubling_endless(link, contents, told), True)
        return told

    def test_all_contents_of_small_links(self):
        for link in LINKS:
            for contents in drawn_contents(link):
                ahead, lap = self.check(link, contents)
                start = walk_far(link, contents, ahead)[0]
                again = walk_far(link, start, lap)
                self.assertEqual(again[0], start)
                self.assertTrue(again[1])

    def test_none_exactly_without_room(self):
        for link in ONES:
            for bit in (0, 1):
                self.assertIsNone(doubling_run(link, empty(link, bit)))
        for link in ONES[:4]:
            for contents, kinds in kinds_for_ever(link, doubling=True).items():
                self.assertEqual(kinds, [])
                self.assertIsNone(doubling_run(link, contents))
        for link in LINKS[:6]:
            for kinds in kinds_for_ever(link, doubling=True).values():
                self.assertTrue(kinds)

    def test_great_links(self):
        draw = random.Random(15)
        for _ in range(400):
            c, d, p, q = [draw.choice([1, 2, BIG, draw.randint(1, BIG)]) for _ in range(4)]
            link = (c, d, p, q)
            contents = some_contents_of(link, draw)
            if c == d == 1:
                self.assertIsNone(doubling_run(link, contents))
            else:
                self.check(link, contents)

    def test_the_examples_of_the_document(self):
        right = ((0, 0), (1, None, False), (0, 0, 0), (0, 0))
        self.assertEqual(
            [behind_doubling((2, 1, 2, 1), ((0, 0), (1, None, False), (1, 0, 0), (0, 0)), ("double", "new")),
             is_doubling_endless((2, 1, 2, 1), right, doubling_run((2, 1, 2, 1), right)),
             doubling_run((1, 1, 3, 3), right)],
            [((0, 0), (1, None, False), (2, 0, 0), (0, 0)), True, None])

    def test_what_is_none(self):
        link, start = (2, 1, 2, 1), empty((2, 1, 2, 1), 0)
        ahead, lap = doubling_run(link, start)
        self.assertTrue(is_doubling_endless(link, start, (ahead, lap)))
        self.assertFalse(is_endless(link, start, (ahead, lap)))
        for value in (
            None, (), [ahead, lap], (ahead, lap, []), (ahead,), (ahead, []), ([], []), (ahead, lap[:-1]),
            (lap[1:], lap), (ahead, [([("double", "new"), ("drop", "new")], 1)]), ([([("double", "two")], 0)], lap),
            (ahead, lap + [([("repeat", True)], 0)]), (ahead, None), (None, lap), ([([("double", "zero")], 1)], lap),
        ):
            self.assertIs(is_doubling_endless(link, start, value), False, value)
        for value in BAD_FARS:
            self.assertIs(is_doubling_endless(link, start, (value, lap)), False)
            self.assertIs(is_doubling_endless(link, start, (ahead, value)), False)
        self.assertTrue(is_doubling_endless((2, 1, 1, 1), start, endless_run((2, 1, 1, 1), start)))
        self.assertTrue(is_far_run(endless_run((2, 1, 1, 1), start)[1]))

    def test_errors(self):
        links, contents = (InvalidLink, BAD_LINKS), (InvalidContents, BAD_CONTENTS)
        not_possible = [("bring", "zero"), ("hear", 0), ("send",), ("double", "new"), ("double", "zero"), ("repeat", 0)]
        events = (InvalidEvent, BAD_EVENTS + not_possible)
        good = [LINK, MIXED, ("repeat", 1)]
        check_errors(self, behind_doubling, ["link", "contents", "event"], good, [links, contents, events])
        check_errors(self, is_doubling_endless, ["link", "contents", "value"], good, [links, contents, None])
        check_errors(self, doubling_run, ["link", "contents"], good[:2], [links, contents])

    def test_new_lists(self):
        for link in ((2, 1, 2, 1), (1, 2, 1, 2)):
            told = check_unchanged(self, doubling_run, link, empty(link, 1))
            check_unchanged(self, is_doubling_endless, link, empty(link, 1), told)


if __name__ == "__main__":
    unittest.main()
