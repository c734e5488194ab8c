import random
import unittest

from healwires.contents import empty, is_contents, mirrored
from healwires.errors import InvalidContents, InvalidEvent, InvalidLink, InvalidNumber, Unlike
from healwires.harm import (
    answers_count, harm, harm_behind, is_harmless, keeping_events, old_count, signs, some_contents,
)
from model import (
    BAD_CONTENTS, BAD_EVENTS, BAD_LINKS, ODD_VALUES, all_contents, all_events, check_errors, check_unchanged, expect,
    harms, some_contents_of, step,
)

LINK = (3, 2, 4, 4)
MIXED = ((0, 2), (1, ("old", 3), True), (1, 0, 2), (0, 1))
BIG = 10 ** 29
# p equal to c and more, q equal to d and more, all numbers 1.
SOUND = [
    (1, 1, 1, 1), (1, 1, 2, 2), (2, 1, 2, 1), (2, 1, 3, 2), (1, 2, 1, 2), (1, 2, 2, 3), (2, 2, 2, 2), (1, 1, 3, 3),
    (3, 1, 3, 1), (1, 3, 1, 3),
]
# p one less than c, q one less than d.
UNSOUND = [(2, 1, 1, 1), (1, 2, 1, 1), (3, 2, 2, 2), (2, 3, 2, 2), (BIG, 1, BIG - 1, 1), (1, BIG, 1, BIG - 1)]


class Counts(unittest.TestCase):
    """Point 14."""

    def test_the_examples_of_the_document(self):
        link, full = (2, 1, 2, 1), ((0, 0), (0, ("old", 1), False), (0, 0, 1), (1, 0))
        calm = ((0, 0), (1, None, False), (0, 1, 1), (0, 1))
        self.assertEqual(
            [answers_count(link, full), old_count(link, full), signs(link, full), harm(link, full), signs(link, calm),
             harm(link, calm), is_harmless(link, calm)],
            [1, 2, (True, False, True, True), 3, (False, False, False, False), 0, True])
        self.assertEqual(
            [harm_behind(link, full, ("hear", 0)), harm_behind(link, full, ("bring", "one")),
             harm_behind(link, full, ("drop", "one")), harm_behind(link, full, ("miss", 0)),
             keeping_events(link, full)],
            [2, 2, 1, 1, [("bring", "one"), ("hear", 0), ("send",)]])
        self.assertEqual(harm((3, 1, 3, 2), some_contents((3, 1, 3, 2), 2)), 2)

    def test_counts(self):
        link = (50, 50, 9, 9)
        contents = ((1, 3), (1, ("old", 4), False), (7, 11, 13), (17, 19))
        self.assertEqual([answers_count(link, contents), old_count(link, contents)], [22, 15])
        contents = ((0, 3), (1, ("new", 4), False), (7, 11, 13), (17, 19))
        self.assertEqual([answers_count(link, contents), old_count(link, contents)], [20, 11])
        contents = ((0, 0), (0, None, True), (0, 0, 0), (0, 0))
        self.assertEqual([answers_count(link, contents), old_count(link, contents)], [0, 0])

    def test_signs_at_their_bounds_for_every_link(self):
        for link in ((BIG, BIG, BIG, BIG), (BIG, BIG, BIG - 7, BIG - 7)):
            p, q = link[2:]
            for lot, old in ((("old", p - 4), 4), (("old", 1), p - 1), (None, p), (("new", p - 1), p)):
                for heard, back in ((0, q), (q - 1, 1), (5, q - 5)):
                    for less, fewer in ((0, 0), (0, 1), (1, 0), (1, 1)):
                        contents = ((0, heard), (1, lot, False), (0, old - less, 2), (back - fewer, 3))
                        self.assertEqual(
                            signs((link[0] + 9, link[1] + 9, p, q), contents), (False, False, fewer == 0, less == 0))

    def test_they_are_told_of_links_that_are_not_sound(self):
        for link in UNSOUND[:4]:
            for contents in all_contents(link):
                enough = (answers_count(link, contents) >= link[3], old_count(link, contents) >= link[2])
                even = contents[0][0] == contents[1][0]
                self.assertEqual(signs(link, contents), (even, contents[1][2]) + enough)


class Harm(unittest.TestCase):
    """Points 15 and 16, held against going through all contents of small links."""

    def test_harm_is_the_greatest_number_of_wrong_steps(self):
        for link in SOUND:
            seen = {}
            for contents, many in harms(link).items():
                self.assertEqual(harm(link, contents), many, (link, contents))
                self.assertIs(is_harmless(link, contents), many == 0)
                self.assertEqual(seen.setdefault(signs(link, contents), many), many)
                self.assertEqual(harm(link, mirrored(link, contents)), many)
            self.assertEqual(sorted(set(seen.values())), [0, 1, 2, 3])

    def test_a_larger_link(self):
        link = (3, 2, 4, 2)
        for contents, many in harms(link).items():
            self.assertEqual(harm(link, contents), many, contents)

    def test_links_that_are_not_sound_go_wrong_without_end(self):
        for link in UNSOUND[:4]:
            self.assertEqual(set(harms(link, most=5).values()), {5})

    def test_great_links(self):
        great = (10 ** 20, 10 ** 19, 10 ** 21, 10 ** 22)
        mixed = ((0, 10 ** 22 - 5), (0, ("old", 10 ** 21 - 3), False), (4, 0, 10 ** 19), (7, 10 ** 18))
        self.assertEqual(harm(great, mixed), 3)
        for there, back, many in (
            ((4, 0, 2), (7, 0), 1), ((4, 0, 3), (4, 0), 1), ((4, 0, 3), (5, 0), 3), ((4, 9, 2), (4, 9), 1),
        ):
            self.assertEqual(harm(great, mixed[:2] + (there, back)), many)

    def test_the_beginning_of_a_turn_is_harmless(self):
        for link in SOUND + [(BIG, BIG, BIG, BIG)]:
            for bit in (0, 1):
                self.assertEqual(harm(link, empty(link, bit)), 0)

    def test_it_falls_by_wrong_steps_and_never_rises(self):
        for link in SOUND:
            for contents in all_contents(link):
                ahead, keeping = harm(link, contents), []
                for event in all_events():
                    told = step(link, contents, event)
                    if told is None:
                        continue
                    later = harm_behind(link, contents, event)
                    self.assertEqual(later, harm(link, told[0]))
                    self.assertLessEqual(later, ahead - 1 if told[1] else ahead)
                    if later + (1 if told[1] else 0) == ahead:
                        keeping.append(event)
                self.assertEqual(keeping_events(link, contents), keeping)
                self.assertTrue(keeping)

    def test_some_of_each(self):
        draw = random.Random(9)
        drawn = [tuple(draw.randint(1, BIG) for _ in range(2)) for _ in range(20)]
        links = SOUND + [(BIG, BIG, BIG, BIG), (1, 1, BIG, BIG), (BIG, 1, BIG, 1)]
        links += [(c, d, c + draw.randint(0, 3), d + draw.randint(0, 3)) for c, d in drawn]
        for link in links:
            for many in range(4):
                contents = some_contents(link, many)
                self.assertTrue(is_contents(link, contents), (link, contents))
                self.assertEqual(harm(link, contents), many)

    def test_no_event_at_great_numbers_makes_it_more(self):
        draw = random.Random(10)
        for _ in range(400):
            c, d = draw.randint(1, BIG), draw.randint(1, BIG)
            link = (c, d, c + draw.choice([0, 1, BIG]), d + draw.choice([0, 1, BIG]))
            contents = some_contents_of(link, draw)
            keeping = keeping_events(link, contents)
            self.assertTrue(keeping)
            for event in all_events():
                told = step(link, contents, event)
                if told is not None:
                    left = harm(link, contents) - harm_behind(link, contents, event) - (1 if told[1] else 0)
                    self.assertGreaterEqual(left, 0)
                    self.assertEqual(event in keeping, left == 0)


class Refused(unittest.TestCase):
    """Points 2, 5, 14 to 17: errors, sound links behind them all."""

    def test_errors(self):
        links, contents = (InvalidLink, BAD_LINKS), (InvalidContents, BAD_CONTENTS)
        events = (InvalidEvent, BAD_EVENTS + [("double", "new"), ("bring", "zero"), ("hear", 0), ("send",)])
        for function in (answers_count, old_count, signs, harm, is_harmless, keeping_events):
            check_errors(self, function, ["link", "contents"], [LINK, MIXED], [links, contents])
        check_errors(
            self, harm_behind, ["link", "contents", "event"], [LINK, MIXED, ("hear", 1)], [links, contents, events])
        numbers = [value for value in ODD_VALUES if value not in (0, 1, 2) or isinstance(value, bool)] + [4, -1, "1"]
        check_errors(self, some_contents, ["link", "many"], [LINK, 3], [links, (InvalidNumber, numbers)])

    def test_a_sound_link_is_wanted_behind_all_other_errors(self):
        for link in UNSOUND:
            start = ((0, 0), (1, None, False), (0, 0, 0), (0, 0))
            pair = ["link", "contents"]
            for function in (harm, is_harmless, keeping_events):
                expect(self, function, pair, [link, start], Unlike, link)
                expect(self, function, pair, [link, None], InvalidContents, None)
            triple = pair + ["event"]
            expect(self, harm_behind, triple, [link, start, ("send",)], Unlike, link)
            expect(self, harm_behind, triple, [link, start, ("hear", 0)], InvalidEvent, ("hear", 0))
            expect(self, some_contents, ["link", "many"], [link, 2], Unlike, link)
            expect(self, some_contents, ["link", "many"], [link, 4], InvalidNumber, 4)

    def test_new_lists(self):
        check_unchanged(self, keeping_events, LINK, MIXED)


if __name__ == "__main__":
    unittest.main()
