import random
import unittest

from healwires.contents import empty, mirrored
from healwires.errors import InvalidContents, InvalidLink, InvalidRun
from healwires.runs import can_go_far, far_after, far_handed, far_turns, far_wrong_steps, tally
from model import (
    BAD_CONTENTS, BAD_FARS, BAD_LINKS, all_events, check_errors, check_unchanged, some_contents_of, step, walk,
    walk_far,
)

LINK = (3, 2, 4, 4)
MIXED = ((0, 2), (1, ("old", 3), True), (1, 0, 2), (0, 1))
BIG = 10 ** 29
SMALL_LINKS = [
    (1, 1, 1, 1), (1, 2, 2, 1), (2, 1, 1, 2), (2, 2, 2, 2), (3, 1, 2, 1), (3, 3, 3, 3), (5, 4, 7, 9), (9, 12, 8, 11),
    (20, 20, 20, 20), (30, 3, 41, 50), (4, 30, 50, 41),
]
# Lists by which a turn ends, or a lot is handed out, when they are gone through a few times.
SHORT_LISTS = [
    [("hear", 0)], [("hear", 1)], [("bring", "zero")], [("bring", "one")], [("bring", "new")],
    [("send",), ("bring", "new")], [("hear", 0), ("miss", 1)], [("send",), ("bring", "new"), ("hear", 0)],
    [("send",), ("bring", "new"), ("hear", 1)], [("bring", "zero"), ("hear", 1)], [("bring", "one"), ("hear", 0)],
    [("bring", "zero"), ("hear", 0)], [("bring", "one"), ("hear", 1)], [("hear", 0), ("hear", 0)],
]


def drawn_item(link, contents, draw):
    """Some events that are possible one behind the other, so often."""
    events = []
    for _ in range(draw.randint(1, 8)):
        possible = [event for event in all_events() if step(link, contents, event)]
        event = draw.choice(possible)
        events.append(event)
        contents = step(link, contents, event)[0]
    return (events, draw.choice([0, 1, 1, 2, 3, 7, 20, 60]))


def nearly_there(link, heard, many, draw):
    """Contents with so much heard, and so many in a lot, while wires are rather full."""
    bit, other = draw.randint(0, 1), draw.randint(0, 1)
    lot = draw.choice([("old", many), ("new" if bit != other else "old", many), None])
    first, second = draw.randint(0, link[0]), draw.randint(link[1] // 2, link[1])
    third = draw.randint(0, link[0] - first)
    there = [first, third, draw.randint(0, link[0] - first - third)]
    back = [second, draw.randint(0, link[1] - second)]
    draw.shuffle(there)
    draw.shuffle(back)
    return ((bit, heard), (other, lot, draw.random() < 0.5), tuple(there), tuple(back))


class AgainstSingleSteps(unittest.TestCase):
    """Point 12: what is told of a far run is what is told of the run of all its events."""

    def check(self, link, contents, far):
        told = walk_far(link, contents, far)
        self.assertIs(can_go_far(link, contents, far), told is not None, (link, contents, far))
        if told is None:
            for function in (far_after, far_wrong_steps, far_turns, far_handed):
                with self.assertRaises(InvalidRun) as caught:
                    function(link, contents, far)
                self.assertIs(caught.exception.value, far)
            return
        run = [event for events, many in far for _ in range(many) for event in events]
        later, wrongs, turns, letters = walk(link, contents, run)
        self.assertEqual(far_after(link, contents, far), later, (link, contents, far))
        self.assertEqual(far_wrong_steps(link, contents, far), wrongs)
        self.assertEqual(far_turns(link, contents, far), turns)
        made, twice = wrongs.count("made"), wrongs.count("twice")
        self.assertEqual(far_handed(link, contents, far), (len(letters) - made - twice, made, twice))
        self.kept(link, contents, far, turns, len(letters))

    def kept(self, link, contents, far, turns, lots):
        """Point 13."""
        sent, dropped, brought, missed, heard = tally(far)
        later = far_after(link, contents, far)
        self.assertEqual(sum(later[2]), sum(contents[2]) + sent - dropped - brought)
        self.assertLessEqual(sum(later[3]), sum(contents[3]) + brought - missed - heard)
        self.assertGreaterEqual(heard, link[3] * (turns - 1))
        self.assertGreaterEqual(brought, link[2] * (lots - 1))

    def test_drawn_items(self):
        draw = random.Random(1)
        for link in SMALL_LINKS:
            for _ in range(400):
                contents = some_contents_of(link, draw)
                self.check(link, contents, [drawn_item(link, contents, draw)])

    def test_drawn_far_runs_of_many_items(self):
        draw = random.Random(2)
        long = 0
        for link in SMALL_LINKS:
            for _ in range(60):
                contents, far = some_contents_of(link, draw), []
                for _ in range(draw.randint(0, 40)):
                    item = drawn_item(link, contents, draw)
                    told = walk_far(link, contents, [item])
                    if told is not None:
                        far.append(item)
                        contents = told[0]
                start = some_contents_of(link, draw)
                self.check(link, start, far)
                long += len(far) > 10
        self.assertGreater(long, 100)

    def test_far_runs_that_go_on(self):
        draw = random.Random(3)
        events = 0
        for link in SMALL_LINKS:
            for _ in range(60):
                start = contents = some_contents_of(link, draw)
                far = []
                for _ in range(20):
                    item = drawn_item(link, contents, draw)
                    told = walk_far(link, contents, [item])
                    if told is not None:
                        far.append(item)
                        contents = told[0]
                self.check(link, start, far)
                events += sum(tally(far))
        self.assertGreater(events, 20000)

    def test_all_pairs_of_events_so_often(self):
        draw = random.Random(4)
        for one in all_events():
            for other in all_events():
                for link in ((9, 12, 8, 11), (5, 4, 7, 9), (7, 5, 1, 3), (5, 7, 3, 1)):
                    for many in (2, 5, 9):
                        self.check(link, some_contents_of(link, draw), [([one, other], many)])

    def test_a_turn_ends_or_a_lot_is_handed_out_within_an_item(self):
        draw = random.Random(18)
        ending = {"turn": 0, "lot": 0, "both": 0}
        for link in [(4, 6, 6, 3), (3, 12, 9, 9), (2, 6, 2, 2), (8, 9, 4, 5), (12, 12, 3, 12), (20, 20, 20, 20)]:
            for heard in range(max(0, link[3] - 4), link[3]):
                for missing in range(1, min(4, link[2])):
                    for _ in range(12):
                        contents = nearly_there(link, heard, link[2] - missing, draw)
                        for events in SHORT_LISTS:
                            far = [(events, draw.randint(2, 9))]
                            self.check(link, contents, far)
                            told = walk_far(link, contents, far)
                            if told is not None and (told[2] or told[3]):
                                ending["both" if told[2] and told[3] else "turn" if told[2] else "lot"] += 1
        self.assertTrue(all(many > 100 for many in ending.values()), ending)

    def test_lots_begun_anew_and_lost_answers(self):
        draw = random.Random(8)
        words = [("bring", "new"), ("bring", "zero"), ("bring", "one"), ("send",), ("miss", 0), ("miss", 1)]
        words.append(("hear", 0))
        link, possible = (60, 8, 25, 40), 0
        for _ in range(3000):
            contents = some_contents_of(link, draw)
            contents = contents[:2] + ((draw.randint(0, 20), draw.randint(0, 20), draw.randint(0, 20)),) + contents[3:]
            far = [([draw.choice(words) for _ in range(draw.randint(1, 6))], draw.randint(2, 30))]
            self.check(link, contents, far)
            possible += can_go_far(link, contents, far)
        self.assertGreater(possible, 200)


def mirrored_by(bit, contents):
    return mirrored((BIG, BIG, BIG, BIG), contents) if bit else contents


class Edges(unittest.TestCase):
    """Point 12: the edges, and counts of 30 figures."""

    def test_the_examples_of_the_document(self):
        wide = (3, 1, 10 ** 20, 10 ** 20)
        start = empty(wide, 0)
        far = [([("send",), ("bring", "new")], 10 ** 20),
               ([("hear", 0), ("send",), ("bring", "new")], 10 ** 20 - 1), ([("hear", 0)], 1)]
        self.assertEqual(
            [far_after(wide, start, far), far_wrong_steps(wide, start, far), far_turns(wide, start, far),
             far_handed(wide, start, far)],
            [((1, 0), (0, None, False), (0, 0, 0), (0, 0)), [], 1, (1, 0, 0)])
        self.assertEqual(
            [tally(far), can_go_far(wide, start, far + far), far_after(wide, start, far[:1])],
            [(199999999999999999999, 0, 199999999999999999999, 0, 100000000000000000000), False,
             ((0, 0), (0, None, True), (0, 0, 0), (1, 0))])

    def test_no_item_and_counts_of_nothing(self):
        for contents in (MIXED, empty(LINK, 1)):
            for far in ([], [([("hear", 0)], 0)], [([("drop", "zero")], 0)] * 40):
                self.assertIs(can_go_far(LINK, contents, far), True)
                self.assertEqual(far_after(LINK, contents, far), contents)
                self.assertEqual(far_wrong_steps(LINK, contents, far), [])
                self.assertEqual(far_turns(LINK, contents, far), 0)
                self.assertEqual(far_handed(LINK, contents, far), (0, 0, 0))

    def test_more_than_forty_items_and_more_than_eight_events(self):
        far = [([("send",), ("drop", "new")], 10 ** 30 - 1)] * 60 + [([("send",), ("drop", "new")] * 20, BIG)]
        contents = ((0, 0), (1, None, False), (1, 0, 1), (0, 0))
        self.assertEqual(far_after(LINK, contents, far), contents)

    def test_a_second_lot_in_an_item(self):
        link, start = (2, 2, 1, 9), ((0, 0), (1, None, False), (0, 1, 1), (0, 0))
        both = [("bring", "zero"), ("bring", "one")]
        self.assertFalse(can_go_far(link, start, [(both, 1)]))
        self.assertEqual(far_handed(link, start, [(both[:1], 1), (both[1:], 1)]), (0, 2, 0))
        link = (BIG, 2, BIG, BIG)
        start = ((0, 0), (1, None, False), (0, BIG, 0), (0, 0))
        self.assertEqual(far_handed(link, start, [([("bring", "zero")], BIG)]), (0, 1, 0))
        old = ((0, 0), (1, ("old", BIG - 1), False), (0, BIG, 0), (0, 0))
        self.assertEqual(
            far_after(link, old, [([("bring", "zero")], BIG)]), ((0, 0), (0, None, False), (0, 0, 0), (2, 0)))

    def test_a_second_turn_in_an_item(self):
        link, start = (1, 2, 1, 1), ((0, 0), (0, None, True), (0, 0, 0), (1, 1))
        both = [("hear", 0), ("hear", 1)]
        self.assertFalse(can_go_far(link, start, [(both, 1)]))
        self.assertEqual(far_turns(link, start, [(both[:1], 1), (both[1:], 1)]), 2)
        self.assertEqual(far_wrong_steps(link, start, [(both[:1], 1), (both[1:], 1)]), ["lost"])

    def test_a_turn_and_a_lot_in_one_item(self):
        link, start = (1, 1, BIG, BIG), ((0, BIG - 1), (0, ("old", 1), True), (0, 0, 0), (1, 0))
        far = [([("hear", 0)], 1), ([("send",), ("bring", "new")], BIG)]
        self.assertEqual(far_after(link, start, far), ((1, 0), (1, None, True), (0, 0, 0), (0, 1)))
        once = [([("send",), ("bring", "new")], BIG), ([("hear", 0)], 1)]
        self.assertEqual(far_turns(link, ((0, BIG - 1), (1, None, False), (0, 0, 0), (0, 0)), once), 1)
        together = ([("send",), ("bring", "new"), ("hear", 1)], BIG)
        self.assertFalse(can_go_far((1, 1, 1, BIG), ((0, 0), (0, None, True), (0, 0, 0), (0, 0)), [together]))
        start = ((1, 0), (0, None, False), (0, 0, 0), (0, 0))
        self.assertEqual(far_turns((1, 1, 1, BIG), start, [together]), 1)
        self.assertEqual(far_handed((1, 1, 1, BIG), start, [together]), (1, 0, 0))
        self.assertFalse(can_go_far((1, 1, 1, BIG), start, [(together[0], BIG + 1)]))

    def test_a_turn_that_ends_within_an_item_of_great_numbers(self):
        link = (BIG, BIG, BIG, BIG)
        for heard in range(BIG - 4, BIG):
            for bit in (0, 1):
                start = mirrored_by(bit, ((0, heard), (1, ("old", 5), False), (0, 0, 0), (BIG, 0)))
                for many in (4, 5, 6, 7, 1000, BIG):
                    far = [([("hear", bit)], many)]
                    later = mirrored_by(bit, ((1, 0), (1, ("old", 5), False), (0, 0, 0), (BIG - many, 0)))
                    self.assertEqual(far_after(link, start, far), later)
                    self.assertEqual(far_wrong_steps(link, start, far), ["lost"])
                    self.assertEqual(far_turns(link, start, far), 1)
                self.assertFalse(can_go_far(link, start, [([("hear", bit)], BIG + 1)]))

    def test_a_lot_that_is_handed_out_within_an_item_of_great_numbers(self):
        link = (BIG, 7, BIG, BIG)
        for many in range(BIG - 4, BIG):
            start = ((1, 0), (1, ("old", many), True), (0, BIG, 0), (3, 0))
            for times in (4, 5, 9, 1000, BIG):
                far = [([("bring", "zero")], times)]
                answered = min(7, 3 + times - (BIG - many - 1))
                self.assertEqual(
                    far_after(link, start, far), ((1, 0), (0, None, True), (0, BIG - times, 0), (answered, 0)))
                self.assertEqual(far_handed(link, start, far), (0, 1, 0))

    def test_full_wires(self):
        link = (BIG, BIG, BIG, BIG)
        start = empty(link, 0)
        self.assertEqual(far_after(link, start, [([("send",)], BIG)])[2], (BIG, 0, 0))
        self.assertFalse(can_go_far(link, start, [([("send",)], BIG + 1)]))
        even = ((0, 0), (0, ("old", 7), True), (0, BIG, 0), (BIG - 5, 0))
        self.assertEqual(
            far_after(link, even, [([("bring", "zero")], BIG - 2)]),
            ((0, 0), (0, None, True), (0, 2, 0), (BIG, 0)))
        self.assertEqual(
            far_after(link, even, [([("bring", "zero"), ("miss", 0)], BIG - 2)]),
            ((0, 0), (0, None, True), (0, 2, 0), (BIG - 5, 0)))
        self.assertEqual(
            far_after(link, even, [([("bring", "zero")] * 3 + [("miss", 0)], BIG // 3)]),
            ((0, 0), (0, None, True), (0, BIG - BIG // 3 * 3, 0), (BIG - 1, 0)))
        self.assertFalse(can_go_far(link, even, [([("bring", "zero"), ("miss", 0), ("miss", 0)], BIG)]))

    def test_a_lot_that_is_begun_anew(self):
        link = (BIG, BIG, BIG, BIG)
        start = ((0, 0), (1, ("old", BIG - 10), False), (1, BIG - 5, 0), (0, 0))
        anew = [("send",), ("bring", "new"), ("bring", "zero"), ("bring", "zero"), ("bring", "zero")]
        later = far_after(link, start, [(anew, BIG // 4)])
        self.assertEqual(later, ((0, 0), (1, ("old", 3), False), (1, BIG - 5 - BIG // 4 * 3, 0), (0, 0)))
        growing = [([("bring", "zero")], 9)]
        self.assertEqual(far_handed(link, start, growing), (0, 0, 0))
        self.assertEqual(far_handed(link, start, growing * 2), (0, 1, 0))

    def test_just_as_often_as_it_can_go(self):
        link = (BIG, BIG, BIG, BIG)
        start = ((0, 3), (1, ("new", 4), False), (BIG // 2, 0, BIG // 2), (BIG // 3, BIG // 3))
        for events, most in (
            ([("drop", "new")], BIG // 2), ([("drop", "one"), ("send",)], BIG // 2), ([("miss", 1)], BIG // 3),
            ([("hear", 1)], BIG // 3), ([("hear", 0)], BIG // 3), ([("drop", "new"), ("drop", "one")], BIG // 2),
            ([("drop", "new"), ("drop", "new"), ("send",)], BIG // 2 - 1), ([("hear", 1), ("miss", 0)], BIG // 3),
            ([("drop", "new"), ("miss", 1)], BIG // 3),
        ):
            for many, possible in ((0, True), (1, True), (most - 1, True), (most, True), (most + 1, False)):
                self.assertIs(can_go_far(link, start, [(events, many)]), possible, (events, many))

    def test_tally(self):
        self.assertEqual(tally([]), (0, 0, 0, 0, 0))
        self.assertEqual(tally([(all_events(), BIG)]), (BIG, 3 * BIG, 3 * BIG, 2 * BIG, 2 * BIG))
        far = [([("send",)] * 3, 2), ([("hear", 0), ("send",)], 0), ([("miss", 1)], 4)]
        self.assertEqual(tally(far), (6, 0, 0, 4, 0))

    def test_errors(self):
        links, contents = (InvalidLink, BAD_LINKS), (InvalidContents, BAD_CONTENTS)
        none = [[([("hear", 0)], 1)], [([("hear", 1)], 2)], [([("double", "new")], 1)]]
        none.append([([("send",), ("hear", 0)], BIG)])
        fars = (InvalidRun, BAD_FARS + none)
        good = [LINK, MIXED, [([("hear", 1), ("drop", "new")], 1)]]
        check_errors(self, can_go_far, ["link", "contents", "value"], good, [links, contents, None])
        for function in (far_after, far_wrong_steps, far_turns, far_handed):
            check_errors(self, function, ["link", "contents", "far"], good, [links, contents, fars])
        check_errors(self, tally, ["far"], good[2:], [(InvalidRun, BAD_FARS + none[2:3])])
        for value in BAD_FARS + none:
            self.assertIs(can_go_far(LINK, MIXED, value), False, value)

    def test_new_lists(self):
        link, bad = (2, 1, 2, 1), ((0, 0), (1, None, False), (0, 2, 0), (1, 0))
        shared = [("bring", "zero")]
        for function in (far_after, far_wrong_steps, far_turns, far_handed, can_go_far):
            check_unchanged(self, function, link, bad, [(shared, 1), (shared, 1)])
        check_unchanged(self, tally, [(shared, 1), (shared, 1)])


if __name__ == "__main__":
    unittest.main()
