import random
import unittest

from healwires.contents import is_far_run
from healwires.errors import InvalidContents, InvalidEvent, InvalidLink, Unlike
from healwires.harm import harm, keeping_events
from healwires.moves import moved
from healwires.runs import far_after, far_wrong_steps, tally
from healwires.worst import first_wrong, is_worst_event, is_worst_run, worst_by, worst_run
from model import (
    BAD_CONTENTS, BAD_EVENTS, BAD_FARS, BAD_LINKS, all_contents, all_events, check_errors, check_unchanged, expect,
    harms, shares_lists, some_contents_of, step, walk_far,
)

LINK = (3, 2, 4, 4)
MIXED = ((0, 2), (1, ("old", 3), True), (1, 0, 2), (0, 1))
BIG = 10 ** 29
SOUND = [
    (1, 1, 1, 1), (1, 1, 2, 2), (2, 1, 2, 1), (2, 1, 3, 2), (1, 2, 1, 2), (1, 2, 2, 3), (2, 2, 2, 2), (1, 1, 3, 3),
    (3, 1, 3, 1), (1, 3, 1, 3), (3, 2, 3, 2), (2, 3, 2, 3),
]
UNSOUND = [(2, 1, 1, 1), (1, 2, 1, 1), (3, 2, 2, 2), (BIG, 1, BIG - 1, 1), (1, BIG, 1, BIG - 1)]


def great_links(draw):
    """Sound links of up to 30 figures, tight ones among them."""
    while True:
        c, d = draw.choice([1, 2, BIG, draw.randint(1, BIG)]), draw.choice([1, 2, BIG, draw.randint(1, BIG)])
        yield (c, d, c + draw.choice([0, 0, 1, BIG]), d + draw.choice([0, 0, 1, BIG]))


class HeldAgainstSingleSteps(unittest.TestCase):
    """Points 18, 19 and 20, for all contents of small links."""

    def test_all_contents(self):
        for link in SOUND:
            for contents, many in harms(link).items():
                self.first(link, contents, many)
                self.worst(link, contents, many)

    def first(self, link, contents, many):
        far = first_wrong(link, contents)
        if many == 0:
            self.assertIsNone(far)
            return
        self.assertTrue(is_far_run(far))
        self.assertLessEqual(len(far), 4)
        self.assertLessEqual(sum(tally(far)), 2 * link[2] + 3 * link[3] + 2)
        told = walk_far(link, contents, far)
        self.assertEqual(len(told[1]), 1)
        self.assertEqual(harm(link, told[0]), many - 1)
        self.ends_wrongly(link, contents, far)

    def ends_wrongly(self, link, contents, far):
        """The last event of a far run is a wrong step."""
        run = [event for events, times in far for _ in range(times) for event in events]
        for event in run[:-1]:
            contents = step(link, contents, event)[0]
        self.assertIsNotNone(step(link, contents, run[-1])[1])

    def worst(self, link, contents, many):
        far = worst_run(link, contents)
        self.assertTrue(is_far_run(far))
        self.assertLessEqual(len(far), 6)
        self.assertFalse(shares_lists(far))
        if many == 0:
            self.assertEqual(far, [])
        else:
            self.assertEqual(len(walk_far(link, contents, far)[1]), many)
            self.ends_wrongly(link, contents, far)
        self.assertIs(is_worst_run(link, contents, far), True)

    def test_by_each_event(self):
        for link in SOUND[:10]:
            for contents in all_contents(link):
                many, keeping = harm(link, contents), keeping_events(link, contents)
                for event in all_events():
                    begins = event in keeping and many > 0
                    self.assertIs(is_worst_event(link, contents, event), begins)
                    far = worst_by(link, contents, event)
                    if not begins:
                        self.assertIsNone(far)
                        continue
                    self.assertEqual(far[0][0][0], event)
                    self.assertGreater(far[0][1], 0)
                    self.assertLessEqual(len(far), 7)
                    self.assertEqual(len(walk_far(link, contents, far)[1]), many)
                    self.ends_wrongly(link, contents, far)

    def test_what_is_a_worst_run(self):
        draw = random.Random(11)
        right = 0
        for link in SOUND[:8]:
            for _ in range(300):
                contents, start, far = some_contents_of(link, draw), None, []
                start = contents
                for _ in range(draw.randint(0, 12)):
                    possible = [event for event in all_events() if step(link, contents, event)]
                    event = draw.choice(keeping_events(link, contents) + possible)
                    contents = step(link, contents, event)[0]
                    far.append(([event], 1))
                worst = len(walk_far(link, start, far)[1]) == harm(link, start)
                right += worst
                self.assertIs(is_worst_run(link, start, far), worst)
        self.assertGreater(right, 300)


class Great(unittest.TestCase):
    """Points 18 to 20, for links of 30 figures."""

    def test_great_links(self):
        draw = random.Random(12)
        links, seen = great_links(draw), {0: 0, 1: 0, 2: 0, 3: 0}
        for _ in range(1500):
            link = next(links)
            contents = some_contents_of(link, draw)
            many = harm(link, contents)
            seen[many] += 1
            far = worst_run(link, contents)
            self.assertLessEqual(len(far), 6)
            self.assertEqual(len(far_wrong_steps(link, contents, far)), many)
            self.assertIs(is_worst_run(link, contents, far), True)
            self.cut(link, contents, far, many)
            first = first_wrong(link, contents)
            if many:
                self.assertLessEqual(len(first), 4)
                self.assertLessEqual(sum(tally(first)), 2 * link[2] + 3 * link[3] + 2)
                self.assertEqual(len(far_wrong_steps(link, contents, first)), 1)
                self.assertEqual(harm(link, far_after(link, contents, first)), many - 1)
                self.cut(link, contents, first, 1)
            else:
                self.assertIsNone(first)
            for event in keeping_events(link, contents) if many else []:
                far = worst_by(link, contents, event)
                self.assertEqual((far[0][0][0], len(far) <= 7), (event, True))
                self.assertIs(is_worst_run(link, contents, far), True)
                self.cut(link, contents, far, many)
        self.assertTrue(all(seen.values()))

    def cut(self, link, contents, far, many):
        """Without its last event a far run has one wrong step less."""
        if not far:
            return
        events, times = far[-1]
        shorter = far[:-1] + [(events, times - 1)] + ([(events[:-1], 1)] if events[1:] else [])
        self.assertEqual(len(far_wrong_steps(link, contents, shorter)), many - 1)

    def test_a_turn_ends_within_an_item(self):
        for heard in range(BIG - 4, BIG):
            link, contents = (BIG, BIG, BIG, BIG), ((0, heard), (1, None, False), (0, 2, 3), (BIG - 1, 0))
            for many in (4, 5, 1000, BIG - 1):
                far = [([("hear", 0)], many), ([("send",), ("bring", "new"), ("hear", 1)], BIG)]
                self.assertIs(is_worst_run(link, contents, far), True)
                shorter = far[:1] + [(far[1][0], BIG - 1)]
                self.assertIs(is_worst_run(link, contents, shorter), False)

    def test_the_examples_of_the_document(self):
        link, full = (2, 1, 2, 1), ((0, 0), (0, ("old", 1), False), (0, 0, 1), (1, 0))
        calm = ((0, 0), (1, None, False), (0, 1, 1), (0, 1))
        worst = [([("hear", 0)], 1), ([("bring", "one")], 1), ([("hear", 1)], 1)]
        self.assertEqual(
            [is_worst_run(link, full, worst), is_worst_run(link, full, worst[:2]), is_worst_run(link, calm, []),
             first_wrong(link, calm), is_worst_event(link, full, ("bring", "one")),
             is_worst_event(link, full, ("drop", "one"))],
            [True, False, True, None, True, False])
        great = (10 ** 20, 10 ** 19, 10 ** 21, 10 ** 22)
        mixed = ((0, 10 ** 22 - 5), (0, ("old", 10 ** 21 - 3), False), (4, 0, 10 ** 19), (7, 10 ** 18))
        self.assertEqual([harm(great, mixed), is_worst_run(great, mixed, worst_run(great, mixed))], [3, True])

    def test_further_events_behind_a_worst_run(self):
        link, full = (2, 1, 2, 1), ((0, 0), (0, ("old", 1), False), (0, 0, 1), (1, 0))
        worst = [([("hear", 0)], 1), ([("bring", "one")], 1), ([("hear", 1)], 1)]
        self.assertTrue(is_worst_run(link, full, worst + [([("send",)], 2)]))
        self.assertFalse(is_worst_run(link, full, worst + [([("send",)], 3)]))
        calm = ((0, 0), (1, None, False), (0, 1, 1), (0, 1))
        self.assertTrue(is_worst_run(link, calm, [([("drop", "zero")], 1), ([("miss", 1)], 0)]))

    def test_the_event_alone_can_be_all(self):
        link, contents = (1, 1, 1, 1), ((0, 0), (0, None, False), (0, 0, 0), (1, 0))
        self.assertEqual(worst_by(link, contents, ("hear", 0)), [([("hear", 0)], 1)])
        self.assertEqual(moved(link, contents, ("hear", 0)), ((1, 0), (0, None, False), (0, 0, 0), (0, 0)))


class Refused(unittest.TestCase):
    """Points 2, 5, 18 to 20: errors, sound links behind them all."""

    def test_errors(self):
        links, contents = (InvalidLink, BAD_LINKS), (InvalidContents, BAD_CONTENTS)
        events = (InvalidEvent, BAD_EVENTS + [("double", "new"), ("repeat", 0)])
        for function in (first_wrong, worst_run):
            check_errors(self, function, ["link", "contents"], [LINK, MIXED], [links, contents])
        check_errors(self, is_worst_run, ["link", "contents", "value"], [LINK, MIXED, None], [links, contents, None])
        for function in (is_worst_event, worst_by):
            check_errors(
                self, function, ["link", "contents", "event"], [LINK, MIXED, ("hear", 1)], [links, contents, events])

    def test_what_is_not_possible_begins_no_worst_run(self):
        for event in (("bring", "zero"), ("hear", 0), ("send",)):
            self.assertIs(is_worst_event(LINK, MIXED, event), False)
            self.assertIsNone(worst_by(LINK, MIXED, event))

    def test_whatever_is_no_far_run_is_no_worst_run(self):
        calm = ((0, 0), (1, None, False), (0, 1, 1), (0, 1))
        for value in BAD_FARS + [[([("hear", 0)], 1)], [([("drop", "zero")], 2)], [([("double", "zero")], 1)]]:
            self.assertIs(is_worst_run((3, 2, 3, 2), calm, value), False, value)

    def test_a_sound_link_is_wanted_behind_all_other_errors(self):
        start = ((0, 0), (1, None, False), (0, 0, 0), (0, 0))
        pair = ["link", "contents"]
        for link in UNSOUND:
            for function in (first_wrong, worst_run):
                expect(self, function, pair, [link, start], Unlike, link)
                expect(self, function, pair, [link, None], InvalidContents, None)
            expect(self, is_worst_run, pair + ["value"], [link, start, []], Unlike, link)
            expect(self, is_worst_run, pair + ["value"], [link, (), []], InvalidContents, ())
            for function in (is_worst_event, worst_by):
                expect(self, function, pair + ["event"], [link, start, ("hear", 0)], Unlike, link)
                expect(self, function, pair + ["event"], [link, start, ("hear", 2)], InvalidEvent, ("hear", 2))

    def test_new_lists(self):
        full = ((0, 0), (0, ("old", 1), False), (0, 0, 1), (1, 0))
        for function in (first_wrong, worst_run):
            check_unchanged(self, function, (2, 1, 2, 1), full)
        check_unchanged(self, worst_by, (2, 1, 2, 1), full, ("send",))
        far = worst_run((2, 1, 2, 1), full)
        check_unchanged(self, is_worst_run, (2, 1, 2, 1), full, far)


if __name__ == "__main__":
    unittest.main()
