import random
import time
import unittest

from healwires.contents import empty
from healwires.errors import InvalidContents, InvalidLink, TooMany
from healwires.runs import after, can_go, handed_out, turns_ended
from healwires.times import is_right_run, is_turn_run, least_right, least_turn, right_run, turn_run
from model import (
    BAD_CONTENTS, BAD_LINKS, BAD_RUNS, ODD_VALUES, all_contents, all_events, check_errors, check_unchanged,
    drawn_contents, shortest, shortest_runs, some_contents_of, step,
)

LINK = (3, 2, 4, 4)
MIXED = ((0, 2), (1, ("old", 3), True), (1, 0, 2), (0, 1))
BIG = 10 ** 29
# Sound ones and others, with few places and many, so that what is sent ahead has room or not.
SMALL = [
    (1, 1, 1, 1), (2, 1, 2, 1), (1, 2, 1, 2), (2, 2, 2, 2), (1, 1, 3, 3), (2, 1, 5, 1), (3, 1, 5, 1), (1, 1, 6, 2),
    (2, 2, 4, 2), (1, 2, 4, 3), (3, 1, 1, 1), (1, 3, 1, 1), (2, 2, 1, 1), (3, 2, 2, 1), (1, 4, 2, 2), (4, 1, 6, 1),
]
TWO, REST = (2, 2, 2, 2), ((0, 0), (1, None, False), (0, 0, 0), (0, 0))
OLD = ((0, 1), (1, ("old", 1), False), (0, 2, 0), (1, 0))
DONE = ((0, 0), (1, None, True), (0, 1, 0), (2, 0))


def by_the_document(link, contents):
    """Point 55, word for word."""
    c, d, p, q = link
    (bit, heard), (other, lot, _), (n, zeros, ones), back = contents
    need = q - heard
    lack = need - back[bit]
    x, y = (zeros, ones) if bit == 0 else (ones, zeros)
    room = 1 if lack > 0 and back[bit] == 0 and sum(back) == d else 0
    if lack <= 0:
        return need
    if bit == other:
        return need + lack + room + max(0, lack - n - x) + (1 if n == 0 and x == 0 and y == c else 0)
    w = p - (lot[1] if lot and lot[0] == "new" else 0)
    v = p - (lot[1] if lot and lot[0] == "old" else 0)
    f = min(n, w)
    left, by_new = x, 2 * w - f + need + lack - 1 + room
    if f < w and n == 0 and x + y == c:
        by_new += 1
        left -= 0 if y else 1
    by_new += max(0, lack - 1 - (n - f) - left)
    if x < v:
        return by_new
    return min(by_new, v + need + lack - 1 + room + max(0, lack - 1 - n - (x - v)))


class Least(unittest.TestCase):
    """Points 55, 56 and 57."""

    def test_the_examples_of_the_document(self):
        self.assertEqual(
            [least_turn(TWO, REST), least_right(TWO, REST), least_turn(TWO, OLD), least_right(TWO, OLD),
             least_turn(TWO, DONE), least_right(TWO, DONE)],
            [8, 4, 1, 5, 2, 9])
        self.assertEqual(
            turn_run(TWO, REST),
            [("send",), ("bring", "new"), ("send",), ("bring", "new"), ("hear", 0), ("send",), ("bring", "new"),
             ("hear", 0)])
        self.assertEqual(
            [right_run(TWO, OLD), turn_run(TWO, OLD)],
            [[("drop", "zero"), ("send",), ("bring", "new"), ("send",), ("bring", "new")], [("hear", 0)]])
        self.assertEqual(
            right_run(TWO, DONE),
            [("bring", "zero"), ("hear", 0), ("send",), ("hear", 0), ("bring", "zero"), ("send",), ("bring", "new"),
             ("send",), ("bring", "new")])
        self.assertEqual(
            [is_turn_run(TWO, REST, [("hear", 0)]),
             is_right_run(TWO, REST, [("send",), ("send",), ("bring", "new"), ("bring", "new")])],
            [False, True])

    def test_all_contents_of_small_links(self):
        for link in SMALL:
            to_end, to_right = shortest(link)
            for contents in all_contents(link):
                self.assertEqual(least_turn(link, contents), to_end[contents], (link, contents))
                self.assertEqual(least_right(link, contents), to_right[contents], (link, contents))
                self.assertEqual(by_the_document(link, contents), to_end[contents])

    def test_the_first_runs(self):
        for link in SMALL:
            told = shortest(link)
            for contents in drawn_contents(link, 50):
                for place, (function, judge) in enumerate(((turn_run, is_turn_run), (right_run, is_right_run))):
                    found = shortest_runs(link, contents, told[place], place, 8)
                    self.assertEqual(function(link, contents), found[0])
                    for run in found:
                        self.assertIs(judge(link, contents, run), True)
                        self.assertIs(judge(link, contents, run[:-1]), False)
                        self.assertIs(judge(link, contents, run + run[-1:]), False)
                        if sum(contents[2]) < link[0]:
                            longer = [("send",), ("drop", "new")] + run
                            self.assertIs(judge(link, contents, longer), False)

    def test_judged_as_walked(self):
        """Any runs of just so many events, one event of a shortest one put in the place of another one."""
        draw, found = random.Random(551), {True: 0, False: 0}
        for link in SMALL[2:10]:
            for contents in drawn_contents(link, 60):
                for place, (function, judge) in enumerate(((turn_run, is_turn_run), (right_run, is_right_run))):
                    run = function(link, contents)
                    for _ in range(4):
                        at = draw.randrange(len(run))
                        other = run[:at] + [draw.choice(all_events())] + run[at + 1:]
                        wanted = self.comes(link, contents, other, place)
                        self.assertIs(judge(link, contents, other), wanted)
                        found[wanted] += 1
        self.assertGreater(min(found.values()), 200)

    def comes(self, link, contents, run, place):
        """Whether a list of events is a run whose last event, and no other one, is what is wanted."""
        came = []
        for event in run:
            told = step(link, contents, event)
            if told is None:
                return False
            contents = told[0]
            came.append(told[2] if place == 0 else bool(told[3] and event[1] == "new" and told[1] is None))
        return came.index(True) == len(run) - 1 if True in came else False

    def test_links_of_any_numbers_event_by_event(self):
        """The least number is 1, or 1 more than the least one behind some event: so nothing is less, and it comes."""
        draw = random.Random(552)
        for _ in range(2500):
            most = draw.choice([4, 12, 12, BIG])
            link = tuple(draw.choice([1, 2, most, draw.randint(1, most)]) for _ in range(4))
            contents = some_contents_of(link, draw)
            found = {least_turn: [], least_right: []}
            for event in all_events():
                told = step(link, contents, event)
                if told is not None:
                    right = told[3] and event[1] == "new" and told[1] is None
                    found[least_turn].append(1 if told[2] else 1 + least_turn(link, told[0]))
                    found[least_right].append(1 if right else 1 + least_right(link, told[0]))
            for function, numbers in found.items():
                self.assertEqual(function(link, contents), min(numbers), (function, link, contents))
            self.assertEqual(least_turn(link, contents), by_the_document(link, contents))

    def test_one_answer_or_one_new_copy_more(self):
        room = 0
        for link in SMALL:
            for contents in drawn_contents(link, 300):
                (bit, heard), receiver, there, back = contents
                more = [back[0] + (bit == 0), back[1] + (bit == 1)]
                if sum(back) < link[1]:
                    other = ((bit, heard), receiver, there, tuple(more))
                    self.assertLessEqual(least_turn(link, other), least_turn(link, contents))
                if sum(there) < link[0]:
                    other = ((bit, heard), receiver, (there[0] + 1,) + there[1:], back)
                    self.assertLessEqual(least_turn(link, other), least_turn(link, contents))
                    room += 1
        self.assertGreater(room, 500)

    def test_runs_of_links_of_numbers_to_twelve(self):
        draw = random.Random(554)
        links = [(12, 12, 12, 12), (1, 12, 12, 12), (12, 1, 12, 12), (12, 12, 1, 12), (12, 12, 12, 1), (5, 3, 12, 7)]
        began = time.perf_counter()
        for link in links:
            for _ in range(25):
                contents = some_contents_of(link, draw)
                for least, function, judge in (
                        (least_turn, turn_run, is_turn_run), (least_right, right_run, is_right_run)):
                    run = function(link, contents)
                    self.assertEqual(len(run), least(link, contents))
                    self.assertIs(judge(link, contents, run), True)
                self.assertEqual(turns_ended(link, contents, turn_run(link, contents)), 1)
                self.assertIsNotNone(handed_out(link, contents, run)[-1])
        self.assertLess(time.perf_counter() - began, 20)


class Bounds(unittest.TestCase):
    """Points 57 and 58."""

    def test_just_three_hundred_events_and_more(self):
        for link, many in (((1, 1, 1, 100), 300), ((1, 1, 149, 2), 302), ((1, 1, 148, 2), 300), ((1, 1, 2, 100), 302)):
            start = empty(link, 1)
            self.assertEqual(least_turn(link, start), many)
            if many == 300:
                self.assertEqual(len(turn_run(link, start)), 300)
            else:
                with self.assertRaises(TooMany) as caught:
                    turn_run(link, start)
                self.assertEqual(caught.exception.value, many)
        for p, many in ((150, 300), (151, 302)):
            link = (1, 1, p, 1)
            if many == 300:
                self.assertEqual(right_run(link, empty(link, 0)), [("send",), ("bring", "new")] * 150)
            else:
                with self.assertRaises(TooMany) as caught:
                    right_run(link, empty(link, 0))
                self.assertEqual(caught.exception.value, many)

    def test_longer_runs_are_judged(self):
        link = (2, 1, 500, 200)
        turn = [("send",), ("bring", "new")] * 500 + [("hear", 0), ("send",), ("bring", "new")] * 199 + [("hear", 0)]
        self.assertEqual(least_turn(link, REST), len(turn))
        self.assertIs(is_turn_run(link, REST, turn), True)
        self.assertIs(is_right_run(link, REST, turn[:1000]), True)
        self.assertIs(is_right_run(link, REST, turn), False)
        self.assertIs(is_turn_run(link, REST, turn[:-1] + [("miss", 0)]), False)

    def test_great_links(self):
        link = (BIG, BIG, BIG, BIG)
        self.assertEqual(least_turn(link, empty(link, 0)), 5 * BIG - 2)
        self.assertEqual(least_right(link, empty(link, 0)), 2 * BIG)
        with self.assertRaises(TooMany) as caught:
            turn_run(link, empty(link, 0))
        self.assertEqual(caught.exception.value, 5 * BIG - 2)
        near = ((1, BIG - 3), (1, None, True), (0, 0, 0), (0, 2))
        self.assertEqual(
            turn_run(link, near), [("hear", 1), ("hear", 1), ("send",), ("bring", "new"), ("hear", 1)])
        near = ((1, BIG - 3), (0, ("new", BIG - 2), False), (1, 0, 0), (0, 2))
        self.assertEqual(right_run(link, near), [("bring", "new"), ("send",), ("bring", "new")])

    def test_from_empty_wires(self):
        for link in SMALL + [(BIG, 1, BIG - 1, 7)]:
            for bit in (0, 1):
                self.assertEqual(least_turn(link, empty(link, bit)), 2 * link[2] + 3 * link[3] - 2)
                self.assertEqual(least_right(link, empty(link, bit)), 2 * link[2])
        for link in SMALL[:12]:
            told = shortest(link)[0]
            for run in shortest_runs(link, empty(link, 0), told, 0, 60):
                self.assertEqual(after(link, empty(link, 0), run), empty(link, 1))


class Refused(unittest.TestCase):
    """Points 2, 5, 55 to 57."""

    def test_errors(self):
        links, contents = (InvalidLink, BAD_LINKS), (InvalidContents, BAD_CONTENTS)
        names = ["link", "contents", "value"]
        for function in (least_turn, least_right, turn_run, right_run):
            check_errors(self, function, names[:2], [LINK, MIXED], [links, contents])
        for function in (is_turn_run, is_right_run):
            check_errors(self, function, names, [LINK, MIXED, None], [links, contents, None])

    def test_any_value_is_judged(self):
        for function in (is_turn_run, is_right_run):
            for value in BAD_RUNS + ODD_VALUES + [[], [("hear", 0)], ("hear", 1)]:
                self.assertIs(function(LINK, MIXED, value), False)
        self.assertIs(can_go(LINK, MIXED, []), True)

    def test_links_that_are_not_sound_are_taken(self):
        for link in ((2, 1, 1, 1), (1, 2, 1, 1), (BIG, 1, 3, 3)):
            for function in (least_turn, least_right, turn_run, right_run):
                function(link, REST)

    def test_new_lists(self):
        for function in (least_turn, least_right, turn_run, right_run):
            check_unchanged(self, function, LINK, MIXED)
        check_unchanged(self, is_turn_run, LINK, MIXED, turn_run(LINK, MIXED))
        check_unchanged(self, is_right_run, LINK, MIXED, right_run(LINK, MIXED))


if __name__ == "__main__":
    unittest.main()
