import random
import unittest

from healwires.contents import empty, is_far_run
from healwires.errors import InvalidContents, InvalidLink, InvalidNumber, Unlike
from healwires.fates import firsts
from healwires.quiet import is_quiet_run, must, quiet_run
from healwires.runs import far_turns, far_wrong_steps
from model import (
    BAD_CONTENTS, BAD_COUNTS, BAD_FARS, BAD_LINKS, WRONG_KINDS, all_contents, all_events, check_errors,
    check_unchanged, drawn_contents, expect, quiet_ends, shares_lists, some_contents_of, some_sound_links, step,
    walk_far,
)

LINK = (3, 2, 4, 4)
MIXED = ((0, 2), (1, ("old", 3), True), (1, 0, 2), (0, 1))
BIG = 10 ** 29
SOUND = [
    (1, 1, 1, 1), (1, 1, 2, 2), (2, 1, 2, 1), (2, 1, 3, 2), (1, 2, 1, 2), (1, 2, 2, 3), (2, 2, 2, 2), (1, 1, 3, 3),
]
UNSOUND = [(2, 1, 1, 1), (1, 2, 1, 1), (3, 2, 2, 2), (BIG, 1, BIG - 1, 1), (1, BIG, 1, BIG - 1)]
START = ((0, 0), (1, None, False), (0, 0, 0), (0, 0))


class Must(unittest.TestCase):
    """Point 29, held against going through all steps."""

    def test_the_examples_of_the_document(self):
        wide = (3, 2, 10 ** 20, 10 ** 20)
        stale = ((0, 10 ** 20 - 1), (1, ("old", 10 ** 20 - 1), True), (1, 1, 1), (1, 0))
        self.assertEqual(
            [must(wide, stale), must(wide, empty(wide, 0)), is_quiet_run(wide, stale, 4, quiet_run(wide, stale, 4)),
             is_quiet_run(wide, empty(wide, 1), 0, [])],
            [1, 0, True, True])

    def test_the_least_number_of_wrong_steps(self):
        for link in SOUND:
            for turns in (2, 3):
                ends, seen = quiet_ends(link, turns), [0, 0]
                for contents in all_contents(link):
                    kinds = [kind for kind in WRONG_KINDS if contents in ends[(turns, kind)]]
                    if contents in ends[(turns, None)]:
                        self.assertEqual(must(link, contents), 0, (link, contents))
                    else:
                        self.assertEqual(must(link, contents), 1, (link, contents))
                        self.assertEqual(kinds, firsts(link, contents))
                    seen[must(link, contents)] += 1
                self.assertEqual(seen[0], seen[1])

    def test_it_hangs_on_bits_and_done_alone(self):
        draw = random.Random(41)
        links = some_sound_links(draw)
        for _ in range(300):
            link = next(links)
            contents = some_contents_of(link, draw)
            even, done = contents[0][0] == contents[1][0], contents[1][2]
            self.assertEqual(must(link, contents), 0 if even == done else 1)


class Runs(unittest.TestCase):
    """Point 30."""

    def check(self, link, contents, turns):
        far = quiet_run(link, contents, turns)
        self.assertTrue(is_far_run(far))
        self.assertLessEqual(len(far), 8 * turns + 8)
        self.assertFalse(shares_lists(far))
        self.assertIs(is_quiet_run(link, contents, turns, far), True)
        return far

    def test_all_contents_of_small_links(self):
        for link in SOUND + [(3, 1, 3, 1), (1, 3, 1, 3), (3, 3, 3, 3), (2, 3, 4, 5)]:
            for contents in drawn_contents(link):
                for turns in (0, 1, 2, 3):
                    far = self.check(link, contents, turns)
                    told = walk_far(link, contents, far)
                    self.assertEqual(told[2], turns)
                    self.assertLessEqual(len(told[1]), must(link, contents))
                    if turns == 0:
                        self.assertEqual(far, [])

    def test_ten_turns_of_great_links(self):
        draw = random.Random(42)
        links = some_sound_links(draw)
        for _ in range(200):
            link = next(links)
            contents = some_contents_of(link, draw)
            for turns in (1, 9, 10):
                far = self.check(link, contents, turns)
                self.assertEqual(far_turns(link, contents, far), turns)
                self.assertEqual(len(far_wrong_steps(link, contents, far)), must(link, contents))

    def test_what_is_a_quiet_run(self):
        draw, right, wrong = random.Random(43), 0, 0
        for link in SOUND[:6]:
            for _ in range(300):
                start = contents = some_contents_of(link, draw)
                far = []
                for _ in range(draw.randint(0, 25)):
                    possible = [event for event in all_events() if step(link, contents, event)]
                    gone = [event for event in possible if event[0] in ("hear", "bring")] or possible
                    event = draw.choice(gone + possible)
                    contents = step(link, contents, event)[0]
                    far.append(([event], 1))
                told = walk_far(link, start, far)
                for turns in range(7):
                    quiet = told[2] == turns and len(told[1]) <= must(link, start)
                    self.assertIs(is_quiet_run(link, start, turns, far), quiet)
                    right += quiet and turns > 0
                    wrong += told[2] == turns and not quiet
        self.assertGreater(min(right, wrong), 100)

    def test_more_items_and_fewer_turns(self):
        link = (1, 1, 1, 1)
        turn = [([("send",)], 1), ([("bring", "new")], 1), ([("hear", 0)], 1)]
        waste = [([("send",), ("drop", "new")], BIG)] * 60
        self.assertIs(is_quiet_run(link, START, 1, turn), True)
        self.assertIs(is_quiet_run(link, START, 1, waste + turn + waste), True)
        self.assertIs(is_quiet_run(link, START, 0, waste), True)
        for turns, far in ((0, turn), (2, turn), (1, turn[:2]), (1, waste), (1, []), (1, turn[1:])):
            self.assertIs(is_quiet_run(link, START, turns, far), False)

    def test_whatever_is_no_far_run(self):
        for value in BAD_FARS + [[([("hear", 0)], 1)], [([("double", "zero")], 1)]]:
            for turns in (0, 1, 10):
                self.assertIs(is_quiet_run(LINK, MIXED, turns, value), False, value)


class Refused(unittest.TestCase):
    """Points 2, 5, 29 and 30."""

    def test_errors(self):
        links, contents = (InvalidLink, BAD_LINKS), (InvalidContents, BAD_CONTENTS)
        turns, triple = (InvalidNumber, BAD_COUNTS), ["link", "contents", "turns"]
        check_errors(self, must, triple[:2], [LINK, MIXED], [links, contents])
        check_errors(self, quiet_run, triple, [LINK, MIXED, 1], [links, contents, turns])
        check_errors(
            self, is_quiet_run, triple + ["value"], [LINK, MIXED, 1, None], [links, contents, turns, None])

    def test_a_sound_link_is_wanted_behind_all_other_errors(self):
        triple = ["link", "contents", "turns"]
        for link in UNSOUND:
            for function, names, more in (
                (must, [], []), (quiet_run, ["turns"], [0]), (is_quiet_run, ["turns", "value"], [0, []]),
            ):
                expect(self, function, triple[:2] + names, [link, START] + more, Unlike, link)
                expect(self, function, triple[:2] + names, [link, None] + more, InvalidContents, None)
            expect(self, quiet_run, triple, [link, START, True], InvalidNumber, True)
            expect(self, is_quiet_run, triple + ["value"], [link, START, -1, []], InvalidNumber, -1)

    def test_new_lists(self):
        for turns in (0, 1, 10):
            far = check_unchanged(self, quiet_run, LINK, MIXED, turns)
            check_unchanged(self, is_quiet_run, LINK, MIXED, turns, far)


if __name__ == "__main__":
    unittest.main()
