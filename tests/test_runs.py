import random
import unittest

from healwires.contents import empty, mirrored, mirrored_event
from healwires.errors import InvalidContents, InvalidLink, InvalidRun
from healwires.runs import after, can_go, handed_out, turns_ended, wrong_steps
from model import (
    BAD_CONTENTS, BAD_LINKS, BAD_RUNS, all_contents, all_events, check_errors, check_unchanged, some_contents_of, step,
    walk,
)

LINK = (3, 2, 4, 4)
MIXED = ((0, 2), (1, ("old", 3), True), (1, 0, 2), (0, 1))
SMALL_LINKS = [(1, 1, 1, 1), (1, 2, 2, 1), (2, 1, 1, 2), (2, 2, 2, 2), (3, 1, 2, 1), (1, 3, 1, 2), (3, 3, 3, 3)]


def walks(link, contents, draw, length):
    """A run of some contents, drawn event by event."""
    run = []
    for _ in range(length):
        events = [event for event in all_events() if step(link, contents, event)]
        event = draw.choice(events)
        run.append(event)
        contents = step(link, contents, event)[0]
    return run


class Runs(unittest.TestCase):
    """Point 11."""

    def test_the_examples_of_the_document(self):
        link = (2, 1, 2, 1)
        start = empty(link, 0)
        turn = [("send",), ("send",), ("bring", "new"), ("bring", "new"), ("hear", 0)]
        self.assertEqual(
            [after(link, start, turn[:3]), after(link, start, turn[:4]), after(link, start, turn)],
            [((0, 0), (1, ("new", 1), False), (1, 0, 0), (0, 0)), ((0, 0), (0, None, True), (0, 0, 0), (1, 0)),
             ((1, 0), (0, None, False), (0, 0, 0), (0, 0))])
        self.assertEqual(
            [wrong_steps(link, start, turn), turns_ended(link, start, turn), handed_out(link, start, turn),
             can_go(link, start, turn[1:])],
            [[], 1, [0], False])
        bad = ((0, 0), (1, None, False), (0, 2, 0), (1, 0))
        twice = [("bring", "zero"), ("bring", "zero")]
        self.assertEqual(
            [wrong_steps(link, bad, twice), handed_out(link, bad, twice), can_go(link, bad, [("bring", "zero")] * 3)],
            [["made"], [None], False])

    def test_drawn_runs(self):
        draw = random.Random(5)
        for link in SMALL_LINKS:
            for _ in range(60):
                contents = some_contents_of(link, draw)
                run = walks(link, contents, draw, draw.randint(0, 120))
                told = walk(link, contents, run)
                self.assertIs(can_go(link, contents, run), True)
                self.assertEqual(
                    (after(link, contents, run), wrong_steps(link, contents, run), turns_ended(link, contents, run),
                     handed_out(link, contents, run)), told)
                other = [mirrored_event(event) for event in run]
                turned = mirrored(link, contents)
                self.assertEqual(after(link, turned, other), mirrored(link, told[0]))
                self.assertEqual(wrong_steps(link, turned, other), told[1])

    def test_drawn_events_that_are_no_run(self):
        draw = random.Random(6)
        refused = 0
        for link in SMALL_LINKS:
            for _ in range(150):
                contents = some_contents_of(link, draw)
                run = [draw.choice(all_events()) for _ in range(draw.randint(0, 4))]
                told = walk(link, contents, run)
                self.assertIs(can_go(link, contents, run), told is not None)
                if told is None:
                    refused += 1
                    with self.assertRaises(InvalidRun) as caught:
                        after(link, contents, run)
                    self.assertIs(caught.exception.value, run)
        self.assertGreater(refused, 100)

    def test_right_runs_hand_out_each_letter_once_in_order(self):
        draw = random.Random(7)
        right = 0
        for link in [(1, 1, 1, 1), (2, 2, 2, 2), (2, 1, 3, 1), (1, 2, 1, 2)]:
            for _ in range(300):
                contents = some_contents_of(link, draw)
                run = walks(link, contents, draw, 60)
                if wrong_steps(link, contents, run):
                    continue
                right += turns_ended(link, contents, run)
                first = 1 if contents[1][2] else 0
                last = turns_ended(link, contents, run) + (1 if after(link, contents, run)[1][2] else 0)
                self.assertEqual(handed_out(link, contents, run), list(range(first, last)))
        self.assertGreater(right, 100)

    def test_letters_are_numbered_by_turns(self):
        link, start = (1, 1, 1, 1), ((0, 0), (0, None, True), (0, 0, 0), (1, 0))
        turn = [("send",), ("bring", "new")]
        run = [("hear", 0)] + turn + [("hear", 1)] + turn + [("hear", 0)]
        self.assertEqual(handed_out(link, start, run), [1, 2])
        self.assertEqual(turns_ended(link, start, run), 3)
        wrong = ((0, 0), (1, None, True), (0, 0, 0), (1, 0))
        self.assertEqual(handed_out(link, wrong, turn + [("hear", 0)] + turn), [0, 1])
        self.assertEqual(wrong_steps(link, wrong, turn + [("hear", 0)] + turn), ["twice"])

    def test_no_event_at_all(self):
        for contents in all_contents((1, 1, 1, 1)):
            self.assertIs(can_go((1, 1, 1, 1), contents, []), True)
            self.assertEqual(after((1, 1, 1, 1), contents, []), contents)
            self.assertEqual(wrong_steps((1, 1, 1, 1), contents, []), [])
            self.assertEqual(turns_ended((1, 1, 1, 1), contents, []), 0)
            self.assertEqual(handed_out((1, 1, 1, 1), contents, []), [])

    def test_errors(self):
        links, contents = (InvalidLink, BAD_LINKS), (InvalidContents, BAD_CONTENTS)
        none = [[("hear", 0)], [("send",)], [("drop", "new"), ("drop", "new")], [("double", "new")], [("hear", True)]]
        runs = (InvalidRun, BAD_RUNS + none)
        good = [LINK, MIXED, [("hear", 1), ("drop", "new")]]
        check_errors(self, can_go, ["link", "contents", "value"], good, [links, contents, None])
        for function in (after, wrong_steps, turns_ended, handed_out):
            check_errors(self, function, ["link", "contents", "events"], good, [links, contents, runs])
        for value in BAD_RUNS + none:
            self.assertIs(can_go(LINK, MIXED, value), False, value)

    def test_new_lists(self):
        link, bad = (2, 1, 2, 1), ((0, 0), (1, None, False), (0, 2, 0), (1, 0))
        run = [("bring", "zero"), ("bring", "zero")]
        for function in (after, wrong_steps, turns_ended, handed_out, can_go):
            check_unchanged(self, function, link, bad, run)


if __name__ == "__main__":
    unittest.main()
