import random
import unittest

from healwires.contents import empty, is_far_run
from healwires.doubling import is_doubling_endless
from healwires.endless import endless_kinds, endless_of, endless_run, is_endless
from healwires.errors import InvalidContents, InvalidEvent, InvalidLink
from healwires.runs import far_after, far_wrong_steps
from model import (
    BAD_CONTENTS, BAD_FARS, BAD_LINKS, ODD_VALUES, all_contents, check_errors, check_unchanged, drawn_contents,
    kinds_for_ever, shares_lists, some_contents_of, walk_far,
)

LINK = (3, 2, 4, 4)
MIXED = ((0, 2), (1, ("old", 3), True), (1, 0, 2), (0, 1))
BIG = 10 ** 29
KINDS = ["lost", "made", "twice"]
# p equal to c, one less, far less; q equal to d, one less, far less; both.
SOUND = [(1, 1, 1, 1), (2, 1, 2, 1), (1, 2, 1, 2), (2, 2, 2, 2), (1, 1, 2, 2), (2, 1, 3, 2)]
FEW_COPIES = [
    (2, 1, 1, 1), (2, 1, 1, 2), (2, 2, 1, 2), (2, 2, 1, 1), (3, 1, 1, 1), (3, 1, 2, 1), (3, 2, 2, 2), (2, 3, 1, 2),
]
FEW_ANSWERS = [(1, 2, 1, 1), (1, 2, 2, 1), (2, 2, 2, 1), (1, 3, 1, 1), (1, 3, 1, 2), (1, 3, 2, 2), (2, 3, 3, 2)]


class HeldAgainstSingleSteps(unittest.TestCase):
    """Points 21 to 23, for all contents of small links."""

    def endless(self, link, contents, told, most):
        self.assertIsInstance(told, tuple)
        ahead, lap = told
        self.assertTrue(is_far_run(ahead) and is_far_run(lap))
        self.assertLessEqual(len(ahead) + len(lap), most)
        self.assertFalse(shares_lists(told))
        self.assertIs(is_endless(link, contents, told), True)
        start = walk_far(link, contents, ahead)
        again = walk_far(link, start[0], lap)
        self.assertEqual(again[0], start[0])
        self.assertEqual(walk_far(link, contents, ahead + lap + lap)[1], start[1] + again[1] + again[1])
        return again[1]

    def test_links_that_are_not_sound(self):
        for links, kinds in ((FEW_COPIES, KINDS), (FEW_ANSWERS, KINDS[:2])):
            for link in links:
                self.assertEqual(endless_kinds(link), kinds)
                for contents in drawn_contents(link):
                    self.assertTrue(self.endless(link, contents, endless_run(link, contents), 30))
                    for wrong in KINDS:
                        told = endless_of(link, contents, wrong)
                        if wrong in kinds:
                            self.assertIn(wrong, self.endless(link, contents, told, 60))
                        else:
                            self.assertIsNone(told)

    def test_sound_links(self):
        for link in SOUND:
            self.assertEqual(endless_kinds(link), [])
            for contents in all_contents(link):
                self.assertIsNone(endless_run(link, contents))
                for wrong in KINDS:
                    self.assertIsNone(endless_of(link, contents, wrong))

    def test_just_these_kinds_come_in_rounds(self):
        for link in SOUND + FEW_COPIES[:6] + FEW_ANSWERS[:6]:
            for contents, kinds in kinds_for_ever(link).items():
                self.assertEqual(kinds, endless_kinds(link), (link, contents))


class Great(unittest.TestCase):
    """Points 21 to 23, for links of 30 figures."""

    def test_the_examples_of_the_document(self):
        right = ((0, 0), (1, None, False), (0, 0, 0), (0, 0))
        self.assertEqual(
            [is_endless((2, 1, 1, 1), right, endless_run((2, 1, 1, 1), right)), endless_run((2, 1, 2, 1), right),
             endless_run((1, 1, 1, 1), right)],
            [True, None, None])
        self.assertEqual(
            [endless_kinds((3, 1, 2, 1)), endless_kinds((1, 2, 1, 1)), endless_kinds((2, 2, 2, 2)),
             endless_kinds((10 ** 29, 1, 10 ** 29 - 1, 5))],
            [["lost", "made", "twice"], ["lost", "made"], [], ["lost", "made", "twice"]])
        go = [([("send",)], 2), ([("bring", "new"), ("hear", 0)], 1),
              ([("send",), ("bring", "new"), ("bring", "one")], 1)]
        self.assertFalse(is_endless((2, 1, 1, 1), right, (go, go)))
        self.assertEqual(
            [endless_of((1, 2, 1, 1), right, "twice"),
             is_endless((1, 2, 1, 1), right, endless_of((1, 2, 1, 1), right, "made"))],
            [None, True])

    def test_great_links(self):
        draw = random.Random(13)
        for _ in range(600):
            c, d = draw.choice([2, BIG, draw.randint(2, BIG)]), draw.choice([2, BIG, draw.randint(2, BIG)])
            p, q = draw.choice([1, c - 1, c, c + 1, 2 * c]), draw.choice([1, d - 1, d, d + 1, BIG])
            link = (c, d, p, q)
            contents = some_contents_of(link, draw)
            kinds = KINDS if p < c else KINDS[:2] if q < d else []
            self.assertEqual(endless_kinds(link), kinds)
            told = endless_run(link, contents)
            if not kinds:
                self.assertIsNone(told)
                continue
            self.assertLessEqual(len(told[0]) + len(told[1]), 30)
            self.assertTrue(is_endless(link, contents, told))
            for wrong in kinds:
                ahead, lap = endless_of(link, contents, wrong)
                self.assertLessEqual(len(ahead) + len(lap), 60)
                self.assertTrue(is_endless(link, contents, (ahead, lap)))
                start = far_after(link, contents, ahead)
                self.assertIn(wrong, far_wrong_steps(link, start, lap))
            for wrong in KINDS[len(kinds):]:
                self.assertIsNone(endless_of(link, contents, wrong))


class Judged(unittest.TestCase):
    """Point 21: what is an endless run."""

    def test_what_is_none(self):
        link, start = (2, 1, 1, 1), empty((2, 1, 1, 1), 0)
        ahead, lap = endless_run(link, start)
        turn = [([("send",), ("bring", "new"), ("hear", 0)], 1)]
        other = [([("send",), ("bring", "new"), ("hear", 1)], 1)]
        self.assertTrue(is_endless(link, start, (ahead, lap)))
        self.assertTrue(is_endless(link, start, (ahead + lap, lap)))
        self.assertTrue(is_endless(link, start, (ahead, lap + lap)))
        for value in (
            None, [], (), (ahead,), [ahead, lap], (ahead, lap, []), (tuple(ahead), lap), (ahead, tuple(lap)),
            (ahead, None), (None, lap), (ahead, []), ([], []), ([], turn), ([], turn + other), (turn + other, lap),
            (ahead, lap[:-1]), (ahead, lap + turn), ({}, lap), ([([("double", "new")], 0)], lap),
            (ahead, lap + [([("repeat", 0)], 0)]),
            (ahead, [([("hear", 0)], 1)]), ([([("hear", 0)], 1)], lap),
        ):
            self.assertIs(is_endless(link, start, value), False, value)

    def test_without_a_wrong_step_it_is_none(self):
        link, start = (1, 1, 1, 1), empty((1, 1, 1, 1), 0)
        turn = [([("send",), ("bring", "new"), ("hear", 0)], 1), ([("send",), ("bring", "new"), ("hear", 1)], 1)]
        self.assertEqual(far_after(link, start, turn), start)
        self.assertFalse(is_endless(link, start, ([], turn)))

    def test_no_item_ends_two_turns(self):
        link, start = (2, 1, 1, 1), ((0, 0), (0, None, False), (0, 0, 0), (0, 0))
        wrong = [("send",), ("bring", "new"), ("hear", 0), ("send",), ("bring", "new"), ("hear", 1)]
        single = [([event], 1) for event in wrong]
        self.assertEqual(far_wrong_steps(link, start, single), ["lost"])
        kept = ((0, 0), (0, None, False), (0, 1, 0), (0, 0))
        lap = [("send",), ("bring", "new"), ("hear", 0), ("send",), ("bring", "new")]
        self.assertFalse(is_endless(link, kept, ([], [(lap, 2)])))

    def test_a_turn_ends_within_an_item(self):
        # Five kept answers are heard in one item; its turn ends by the second one.
        for link in ((1, 6, 1, 2), (1, 6, 3, 2)):
            start, many = empty(link, 0), link[2] - 1
            lap = [
                ([("send",), ("bring", "new")], many + 6),
                ([("hear", 0), ("send",), ("bring", "new")], 1), ([("hear", 0)], 1),
                ([("send",), ("bring", "new")], many + 1),
                ([("hear", 1), ("send",), ("bring", "new")], 1), ([("hear", 1)], 1),
                ([("hear", 0)], 5), ([("send",), ("bring", "new"), ("hear", 1)], 2),
            ]
            self.assertEqual(walk_far(link, start, lap)[:2], (start, ["lost", "lost"]))
            for function in (is_endless, is_doubling_endless):
                self.assertIs(function(link, start, ([], lap)), True)
                self.assertIs(function(link, start, ([], lap[:-2] + [([("hear", 0)], 4)] + lap[-1:])), False)
                self.assertIs(function(link, start, ([], lap[:-2] + [([("hear", 0)], 6)] + lap[-1:])), False)

    def test_whatever_is_no_far_run(self):
        link, start = (2, 1, 1, 1), empty((2, 1, 1, 1), 0)
        ahead, lap = endless_run(link, start)
        for value in BAD_FARS:
            self.assertIs(is_endless(link, start, (value, lap)), False)
            self.assertIs(is_endless(link, start, (ahead, value)), False)


class Refused(unittest.TestCase):
    """Points 2, 5, 21 to 23."""

    def test_errors(self):
        links, contents = (InvalidLink, BAD_LINKS), (InvalidContents, BAD_CONTENTS)
        kinds = (InvalidEvent, ODD_VALUES + ["Lost", "right", "los", ["lost"], ("made",)])
        check_errors(self, is_endless, ["link", "contents", "value"], [LINK, MIXED, None], [links, contents, None])
        check_errors(self, endless_run, ["link", "contents"], [LINK, MIXED], [links, contents])
        check_errors(self, endless_kinds, ["link"], [LINK], [links])
        check_errors(
            self, endless_of, ["link", "contents", "wrong"], [LINK, MIXED, "lost"], [links, contents, kinds])

    def test_new_lists(self):
        for link in ((2, 1, 1, 1), (1, 2, 1, 1), (3, 3, 2, 2)):
            start = empty(link, 0)
            check_unchanged(self, endless_kinds, link)
            told = check_unchanged(self, endless_run, link, start)
            check_unchanged(self, is_endless, link, start, told)
            check_unchanged(self, endless_of, link, start, "made")


if __name__ == "__main__":
    unittest.main()
