import random
import unittest

from healwires.contents import empty, is_contents, is_sound
from healwires.endless import endless_run
from healwires.errors import InvalidContents, InvalidLink, InvalidNumber, Unlike
from healwires.fates import fates
from healwires.harm import harm
from healwires.quiet import must
from healwires.rates import turn_cost
from healwires.runs import far_after, far_turns, far_wrong_steps
from healwires.settling import (
    cheapest_sound, is_two_turn_run, is_unsettled_run, lies_in, price, settled_by, two_turn_run, two_turn_wrongs,
    unsettled_run,
)
from healwires.times import least_turn
from model import (
    BAD_CONTENTS, BAD_COUNTS, BAD_FARS, BAD_LINKS, ODD_VALUES, Steps, all_contents, all_events, check_errors,
    check_unchanged, drawn_contents, expect, harms, shares_lists, some_contents_of, some_sound_links, step, walk_far,
)

LINK = (3, 2, 4, 4)
MIXED = ((0, 2), (1, ("old", 3), True), (1, 0, 2), (0, 1))
REST = ((0, 0), (1, None, False), (0, 0, 0), (0, 0))
FULL = ((0, 0), (0, ("old", 1), False), (0, 0, 1), (1, 0))
BIG = 10 ** 29
SOUND = [
    (1, 1, 1, 1), (1, 1, 2, 2), (2, 1, 2, 1), (2, 1, 3, 2), (1, 2, 1, 2), (1, 2, 2, 3), (2, 2, 2, 2), (1, 1, 3, 3),
    (3, 1, 3, 1), (1, 3, 1, 3),
]
UNSOUND = [(2, 1, 1, 1), (1, 2, 1, 1), (3, 2, 2, 2), (BIG, 1, BIG - 1, 1), (1, BIG, 1, BIG - 1)]


def most_turns(told, harms_of):
    """For all contents: the greatest number of turns that runs end behind which contents are not harmless; or None."""
    found = {contents: 0 if many > 0 else None for contents, many in harms_of.items()}
    changed = True
    while changed:
        changed = False
        for contents, rows in told.steps.items():
            for later, _, ended in rows:
                if found[later] is not None and found[later] + ended > found[contents]:
                    found[contents], changed = found[later] + ended, True
    return found


def wrongs_by_turns(told):
    """For all contents: by how many turns a run ends at least, 0, 1 or 2: the numbers of wrong steps of such runs."""
    found = {contents: [{0}, set(), set()] for contents in told.steps}
    changed = True
    while changed:
        changed = False
        for contents, rows in told.steps.items():
            for many in range(3):
                size = len(found[contents][many])
                for later, wrong, ended in rows:
                    ahead = found[later][max(0, many - ended)]
                    found[contents][many] |= {one + (1 if wrong else 0) for one in ahead}
                changed = changed or len(found[contents][many]) != size
    return found


class Settled(unittest.TestCase):
    """Point 78."""

    def test_the_examples_of_the_document(self):
        link = (2, 1, 2, 1)
        self.assertEqual(
            [settled_by(link, FULL), settled_by(link, REST), is_unsettled_run(link, FULL, [([("hear", 0)], 1)]),
             unsettled_run(link, REST), is_unsettled_run(link, FULL, [])],
            [2, 0, True, None, False])
        self.assertEqual(
            [two_turn_wrongs(link, FULL), two_turn_wrongs(link, REST),
             is_two_turn_run(link, FULL, 1, two_turn_run(link, FULL, 1)), two_turn_run(link, FULL, 2)],
            [[1, 3], [0], True, None])
        great, heard = (10 ** 20,) * 4, ((0, 5), (0, None, False), (0, 0, 0), (0, 0))
        self.assertEqual(
            [is_two_turn_run(great, heard, 1, two_turn_run(great, heard, 1)), lies_in(link, FULL, (9, 9, 2, 1)),
             lies_in(link, FULL, (2, 1, 1, 1)), cheapest_sound(3, 2), price(3, 2)],
            [True, True, False, (3, 2, 3, 2), 10])

    def test_all_runs_of_small_links(self):
        seen = set()
        for link in SOUND:
            told = harms(link)
            for contents, many in most_turns(Steps(link), told).items():
                turns = 0 if many is None else many + 1
                self.assertEqual(settled_by(link, contents), turns)
                seen.add((turns, told[contents]))
                far = unsettled_run(link, contents)
                if turns == 0:
                    self.assertIsNone(far)
                    self.assertIs(is_unsettled_run(link, contents, []), False)
                    continue
                later, _, ended, _ = walk_far(link, contents, far)
                self.assertEqual(ended, turns - 1)
                self.assertGreater(told[later], 0)
                self.assertIs(is_unsettled_run(link, contents, far), True)
                self.assertIs(is_unsettled_run(link, contents, []), turns == 1)
        self.assertEqual(sorted(seen), [(0, 0), (1, 1), (1, 2), (2, 1), (2, 2), (2, 3)])

    def test_great_links(self):
        draw, seen = random.Random(781), set()
        links = some_sound_links(draw)
        for _ in range(300):
            link = next(links)
            contents = some_contents_of(link, draw)
            far, turns = unsettled_run(link, contents), settled_by(link, contents)
            seen.add(turns)
            if far is None:
                self.assertEqual((turns, harm(link, contents)), (0, 0))
            else:
                self.assertEqual(far_turns(link, contents, far), turns - 1)
                self.assertGreater(harm(link, far_after(link, contents, far)), 0)
                self.assertIs(is_unsettled_run(link, contents, far), True)
        self.assertEqual(seen, {0, 1, 2})

    def test_judged_as_walked(self):
        draw, found = random.Random(782), {True: 0, False: 0}
        for link in SOUND:
            told = harms(link)
            for contents in drawn_contents(link, 120):
                for _ in range(3):
                    far, later, ended = drawn_far(link, contents, draw, draw.choice([2, 6, 12]))
                    wanted = ended == settled_by(link, contents) - 1 and told[later] > 0
                    self.assertIs(is_unsettled_run(link, contents, far), wanted)
                    found[wanted] += 1
        self.assertGreater(min(found.values()), 200)
        for value in BAD_FARS:
            self.assertIs(is_unsettled_run((2, 1, 2, 1), FULL, value), False)


def drawn_far(link, contents, draw, many):
    """A far run of single events, drawn, the contents behind it, and how many turns it ends."""
    far, ended = [], 0
    for _ in range(many):
        found = [event for event in all_events() if step(link, contents, event)]
        lively = [event for event in found if event[0] in ("bring", "hear", "send")]
        told = None
        while told is None:
            event = draw.choice(lively or found)
            told = step(link, contents, event)
        far.append(([event], 1))
        contents, ended = told[0], ended + told[2]
    return far, contents, ended


class TwoTurns(unittest.TestCase):
    """Point 79."""

    def test_all_runs_of_small_links(self):
        for link in SOUND:
            told = harms(link)
            for contents, row in wrongs_by_turns(Steps(link)).items():
                self.assertEqual(two_turn_wrongs(link, contents), sorted(row[2]))
                wanted = [told[contents] - 2, told[contents]] if told[contents] > 1 else [told[contents]]
                self.assertEqual(sorted(row[2]), wanted)

    def check(self, link, contents):
        wanted = two_turn_wrongs(link, contents)
        self.assertEqual(wanted[-1], harm(link, contents))
        for many in (0, 1, 2, 3, 4, BIG):
            far = two_turn_run(link, contents, many)
            if many not in wanted:
                self.assertIsNone(far)
                continue
            self.assertLessEqual(len(far), 40)
            self.assertEqual(far_turns(link, contents, far), 2)
            self.assertEqual(len(far_wrong_steps(link, contents, far)), many)
            self.assertIs(is_two_turn_run(link, contents, many, far), True)
            self.assertFalse(shares_lists(far))
            for other in range(5):
                self.assertIs(is_two_turn_run(link, contents, other, far), other == many)
            if max(link) < 9:
                later, wrongs, ended, _ = walk_far(link, contents, far)
                self.assertEqual((ended, len(wrongs)), (2, many))
                self.assertEqual(harm(link, later), 0)

    def test_runs_of_small_links(self):
        for link in SOUND + [LINK]:
            for contents in drawn_contents(link, 400):
                self.check(link, contents)

    def test_runs_of_great_links(self):
        draw = random.Random(791)
        links = some_sound_links(draw)
        for _ in range(250):
            link = next(links)
            self.check(link, some_contents_of(link, draw))

    def test_judged_as_walked(self):
        draw, found = random.Random(792), {True: 0, False: 0}
        for link in SOUND[:6]:
            for contents in drawn_contents(link, 100):
                many = two_turn_wrongs(link, contents)[0]
                far = two_turn_run(link, contents, many)
                more, _, _ = drawn_far(link, far_after(link, contents, far), draw, draw.randint(0, 9))
                for one in (far + more, far[:-1], far + far, []):
                    told = walk_far(link, contents, one)
                    wanted = told is not None and told[2] == 2 and len(told[1]) == many
                    self.assertIs(is_two_turn_run(link, contents, many, one), wanted)
                    found[wanted] += 1
        self.assertGreater(min(found.values()), 200)
        for value in BAD_FARS + [[]]:
            self.assertIs(is_two_turn_run((2, 1, 2, 1), FULL, 1, value), False)


class Sizes(unittest.TestCase):
    """Point 80."""

    def test_contents_in_other_links(self):
        lying = 0
        links = SOUND + UNSOUND[:3] + [LINK]
        for link in links[:7] + UNSOUND[:3]:
            for contents in drawn_contents(link, 40):
                for other in links:
                    wanted = contents in set(all_contents(other)) if max(other) < 3 else is_contents(other, contents)
                    self.assertIs(lies_in(link, contents, other), wanted)
                    if wanted and is_sound(link) and is_sound(other):
                        lying += 1
                        if link[2:] == other[2:]:
                            self.assertEqual(harm(link, contents), harm(other, contents))
                            self.assertEqual(fates(link, contents), fates(other, contents))
                            self.assertEqual(must(link, contents), must(other, contents))
                        if link[2] <= other[2] and link[3] <= other[3]:
                            self.assertLessEqual(harm(other, contents), harm(link, contents))
        self.assertGreater(lying, 300)

    def test_great_sizes(self):
        great = ((0, BIG - 1), (1, ("old", BIG - 1), True), (BIG, 0, 0), (0, BIG))
        self.assertIs(lies_in((BIG,) * 4, great, (BIG,) * 4), True)
        for place in range(4):
            other = [BIG] * 4
            other[place] -= 1
            self.assertIs(lies_in((BIG,) * 4, great, tuple(other)), False)
            other[place] += 2
            self.assertIs(lies_in((BIG,) * 4, great, tuple(other)), True)

    def test_the_cheapest_sound_link(self):
        for places in range(1, 7):
            for back in range(1, 7):
                link, cost = cheapest_sound(places, back), price(places, back)
                self.assertEqual(link, (places, back, places, back))
                self.assertEqual(cost, 2 * places + 3 * back - 2)
                self.assertEqual(cost, least_turn(link, empty(link, 0)))
                for p in range(1, 10):
                    for q in range(1, 10):
                        other = (places, back, p, q)
                        if is_sound(other):
                            self.assertTrue(turn_cost(other) > cost or other == link)
                        if turn_cost(other) < cost:
                            self.assertFalse(is_sound(other))
                            self.assertIsNotNone(endless_run(other, REST))
        self.assertEqual(price(BIG, 1), 2 * BIG + 1)
        self.assertEqual(cheapest_sound(BIG, 7), (BIG, 7, BIG, 7))


class Refused(unittest.TestCase):
    """Points 2, 5, 78 to 80."""

    def test_errors(self):
        links, contents = (InvalidLink, BAD_LINKS), (InvalidContents, BAD_CONTENTS)
        counts = (InvalidNumber, BAD_COUNTS)
        names = ["link", "contents", "many", "value"]
        for function in (settled_by, unsettled_run, two_turn_wrongs):
            check_errors(self, function, names[:2], [LINK, MIXED], [links, contents])
        check_errors(
            self, is_unsettled_run, ["link", "contents", "value"], [LINK, MIXED, None], [links, contents, None])
        check_errors(self, two_turn_run, names[:3], [LINK, MIXED, 1], [links, contents, counts])
        check_errors(self, is_two_turn_run, names, [LINK, MIXED, 1, None], [links, contents, counts, None])
        check_errors(self, lies_in, ["link", "contents", "other"], [LINK, MIXED, LINK], [links, contents, links])
        places = (InvalidNumber, BAD_COUNTS + [0])
        for function in (cheapest_sound, price):
            check_errors(self, function, ["places", "back"], [3, 2], [places, places])

    def test_a_sound_link_is_wanted_behind_all_other_errors(self):
        pair, triple = ["link", "contents"], ["link", "contents", "many"]
        for link in UNSOUND:
            for function in (settled_by, unsettled_run, two_turn_wrongs):
                expect(self, function, pair, [link, REST], Unlike, link)
                expect(self, function, pair, [link, None], InvalidContents, None)
            expect(self, is_unsettled_run, pair + ["value"], [link, REST, []], Unlike, link)
            expect(self, two_turn_run, triple, [link, REST, 0], Unlike, link)
            expect(self, two_turn_run, triple, [link, REST, -1], InvalidNumber, -1)
            expect(self, is_two_turn_run, triple + ["value"], [link, REST, 7, []], Unlike, link)
            expect(self, is_two_turn_run, triple + ["value"], [link, REST, True, []], InvalidNumber, True)
            self.assertIs(lies_in(link, REST, LINK), True)
            expect(self, lies_in, pair + ["other"], [link, REST, 3], InvalidLink, 3)

    def test_any_value_is_judged(self):
        for value in ODD_VALUES:
            self.assertIs(is_unsettled_run(LINK, MIXED, value), value == [])
            self.assertIs(is_two_turn_run(LINK, MIXED, 1, value), False)

    def test_new_lists(self):
        link = (2, 1, 2, 1)
        for function in (settled_by, unsettled_run, two_turn_wrongs):
            check_unchanged(self, function, link, FULL)
        for many in range(4):
            found = check_unchanged(self, two_turn_run, link, FULL, many)
            check_unchanged(self, is_two_turn_run, link, FULL, many, found)
        check_unchanged(self, is_unsettled_run, link, FULL, unsettled_run(link, FULL))
        check_unchanged(self, lies_in, link, FULL, LINK)


if __name__ == "__main__":
    unittest.main()
