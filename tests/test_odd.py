import random
import unittest

from healwires.contents import mirrored
from healwires.errors import InvalidContents, InvalidLink, InvalidRun, Unlike
from healwires.harm import harm
from healwires.odd import freed, freeing_events, is_odd, odd_between
from model import (
    BAD_CONTENTS, BAD_FARS, BAD_LINKS, all_contents, all_events, check_errors, check_unchanged, drawn_contents, expect,
    harms, some_contents_of, some_sound_links, step, walk_far,
)

LINK = (3, 2, 4, 4)
MIXED = ((0, 2), (1, ("old", 3), True), (1, 0, 2), (0, 1))
REST = ((0, 0), (1, None, False), (0, 0, 0), (0, 0))
BIG = 10 ** 29
SOUND = [
    (1, 1, 1, 1), (1, 1, 2, 2), (2, 1, 2, 1), (2, 1, 3, 2), (1, 2, 1, 2), (1, 2, 2, 3), (2, 2, 2, 2), (1, 1, 3, 3),
]
UNSOUND = [(2, 1, 1, 1), (1, 2, 1, 1), (3, 2, 2, 2), (1, 3, 1, 1), (2, 2, 1, 1)]
FULL = ((0, 0), (0, ("old", 1), False), (0, 0, 1), (1, 0))


def some_far(link, contents, draw, many):
    """A far run of contents of a small link, drawn, of items of an event or two, and the contents behind it."""
    far = []
    for _ in range(many):
        found = [event for event in all_events() if step(link, contents, event)]
        item = ([draw.choice(found)], draw.choice([1, 1, 1, 2]))
        if draw.random() < 0.3:
            item = (item[0] + [draw.choice(all_events())], item[1])
        told = walk_far(link, contents, [item])
        if told:
            far.append(item)
            contents = told[0]
    return far, contents


class Odd(unittest.TestCase):
    """Point 76."""

    def test_the_examples_of_the_document(self):
        link = (2, 1, 2, 1)
        self.assertEqual(
            [is_odd(link, FULL), is_odd(link, REST), odd_between(link, FULL, REST),
             odd_between((2, 1, 1, 1), FULL[:1] + ((0, None, False),) + FULL[2:], REST)],
            [True, False, True, True])
        self.assertEqual(
            [freeing_events(link, FULL), freed(link, FULL, [([("drop", "one")], 1)]),
             freed(link, FULL, [([("hear", 0)], 1), ([("bring", "one")], 1)]), freeing_events(link, REST)],
            [[("drop", "one"), ("miss", 0)], 1, 0, []])

    def test_just_wrong_steps_change_it(self):
        for link in SOUND + UNSOUND:
            for contents in all_contents(link):
                odd = is_odd(link, contents)
                (bit, _), (other, _, done) = contents[:2]
                self.assertIs(odd, (bit == other and not done) or (done and bit != other))
                for event in all_events():
                    told = step(link, contents, event)
                    if told is not None:
                        self.assertIs(is_odd(link, told[0]) != odd, told[1] is not None)
                        self.assertIs(odd_between(link, contents, told[0]), told[1] is not None)

    def test_runs_from_contents_to_others(self):
        draw, found = random.Random(761), {True: 0, False: 0}
        for link in SOUND + UNSOUND:
            for contents in drawn_contents(link, 80):
                far, later = some_far(link, contents, draw, 12)
                many = len(walk_far(link, contents, far)[1])
                self.assertIs(odd_between(link, contents, later), many % 2 == 1)
                self.assertIs(odd_between(link, later, contents), many % 2 == 1)
                self.assertIs(is_odd(link, mirrored(link, contents)), is_odd(link, contents))
                found[many % 2 == 1] += 1
        self.assertGreater(min(found.values()), 100)

    def test_great_links(self):
        draw = random.Random(762)
        links = some_sound_links(draw)
        for _ in range(100):
            link = next(links)
            one, other = some_contents_of(link, draw), some_contents_of(link, draw)
            self.assertIs(is_odd(link, one), harm(link, one) % 2 == 1)
            self.assertIs(odd_between(link, one, other), (harm(link, one) - harm(link, other)) % 2 == 1)


class Freed(unittest.TestCase):
    """Point 77."""

    def test_all_events_of_small_links(self):
        seen = set()
        for link in SOUND:
            told = harms(link)
            for contents, many in told.items():
                wanted = []
                for event in all_events():
                    row = step(link, contents, event)
                    if row is None:
                        continue
                    less = many - told[row[0]]
                    self.assertIn(less, (1,) if row[1] else (0, 2))
                    self.assertEqual(freed(link, contents, [([event], 1)]), 1 if less == 2 else 0)
                    if less == 2:
                        wanted.append(event)
                self.assertEqual(freeing_events(link, contents), wanted)
                seen |= set(wanted)
        self.assertEqual(
            sorted(seen),
            [("bring", "new"), ("bring", "one"), ("bring", "zero"), ("drop", "one"), ("drop", "zero"), ("miss", 0),
             ("miss", 1)])

    def test_far_runs(self):
        draw, found = random.Random(771), {0: 0, 1: 0}
        for link in SOUND:
            told = harms(link)
            for contents in drawn_contents(link, 150):
                far, later = some_far(link, contents, draw, 10)
                many, now = 0, contents
                for events, times in far:
                    for event in events * times:
                        row = step(link, now, event)
                        many += told[now] - told[row[0]] == 2
                        now = row[0]
                self.assertEqual(freed(link, contents, far), many)
                self.assertEqual(told[contents], told[later] + len(walk_far(link, contents, far)[1]) + 2 * many)
                found[many] += 1
        self.assertGreater(min(found.values()), 50)

    def test_great_links(self):
        link = (BIG, BIG, BIG, BIG)
        contents = ((0, BIG - 3), (0, ("old", BIG - 5), False), (0, 0, 7), (5, 0))
        self.assertEqual(harm(link, contents), 3)
        self.assertEqual(freeing_events(link, contents), [])
        self.assertEqual(freed(link, contents, [([("miss", 0)], 2)]), 0)
        self.assertEqual(freed(link, contents, [([("miss", 0)], 3), ([("drop", "one")], 5)]), 1)
        later = ((0, BIG - 3), (0, ("old", BIG - 5), False), (0, 0, 5), (3, 0))
        self.assertEqual(freeing_events(link, later), [("drop", "one"), ("miss", 0), ("bring", "zero")][:2])
        fresh = ((0, 0), (0, ("old", BIG - 5), False), (0, 1, 5), (BIG, 0))
        self.assertEqual(freeing_events(link, fresh), [("bring", "zero"), ("drop", "one"), ("miss", 0)])


class Refused(unittest.TestCase):
    """Points 2, 5, 76 and 77."""

    def test_errors(self):
        links, contents = (InvalidLink, BAD_LINKS), (InvalidContents, BAD_CONTENTS)
        none = [[([("hear", 0)], 1)], [([("bring", "one")], 3)]]
        names = ["link", "contents", "other"]
        for function in (is_odd, freeing_events):
            check_errors(self, function, names[:2], [LINK, MIXED], [links, contents])
        check_errors(self, odd_between, names, [LINK, MIXED, REST], [links, contents, contents])
        check_errors(
            self, freed, ["link", "contents", "far"], [LINK, MIXED, [([("bring", "one")], 2)]],
            [links, contents, (InvalidRun, BAD_FARS + none)])

    def test_a_sound_link_is_wanted_behind_all_other_errors(self):
        for link in UNSOUND:
            expect(self, freeing_events, ["link", "contents"], [link, REST], Unlike, link)
            expect(self, freeing_events, ["link", "contents"], [link, None], InvalidContents, None)
            expect(self, freed, ["link", "contents", "far"], [link, REST, []], Unlike, link)
            bad = [([("hear", 0)], 1)]
            expect(self, freed, ["link", "contents", "far"], [link, REST, bad], InvalidRun, bad)
            self.assertIs(is_odd(link, REST), False)
            self.assertIs(odd_between(link, REST, REST), False)

    def test_new_lists(self):
        check_unchanged(self, is_odd, LINK, MIXED)
        check_unchanged(self, odd_between, LINK, MIXED, REST)
        check_unchanged(self, freeing_events, (2, 1, 2, 1), FULL)
        check_unchanged(self, freed, (2, 1, 2, 1), FULL, [([("drop", "one")], 1)])


if __name__ == "__main__":
    unittest.main()
