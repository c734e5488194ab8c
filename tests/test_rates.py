import math
import random
import unittest

from healwires.contents import empty
from healwires.errors import InvalidContents, InvalidLink, InvalidNumber, InvalidRun, TooMany, Unlike
from healwires.rates import busy_run, events_for, is_busy_run, most_right, rate_of, turn_cost
from healwires.runs import far_after, far_handed
from model import (
    BAD_CONTENTS, BAD_COUNTS, BAD_FARS, BAD_LINKS, BAD_RUNS, ODD_VALUES, all_contents, all_events, check_errors,
    check_unchanged, expect, some_contents_of, some_sound_links, step, walk,
)

LINK = (3, 2, 4, 4)
MIXED = ((0, 2), (1, ("old", 3), True), (1, 0, 2), (0, 1))
REST = ((0, 0), (1, None, False), (0, 0, 0), (0, 0))
BIG = 10 ** 29
SOUND = [
    (1, 1, 1, 1), (1, 1, 2, 2), (2, 1, 2, 1), (2, 1, 3, 2), (1, 2, 1, 2), (1, 2, 2, 3), (2, 2, 2, 2), (1, 1, 3, 1),
]
UNSOUND = [(2, 1, 1, 1), (1, 2, 1, 1), (3, 2, 2, 2), (BIG, 1, BIG - 1, 1), (1, BIG, 1, BIG - 1)]


def rightly(told, event):
    return 1 if told[3] and event[1] == "new" and told[1] is None else 0


def most_by_events(link, most):
    """The greatest numbers of letters handed out rightly from empty wires by at most 0, 1, 2, .. events."""
    level, found = {empty(link, 0): 0}, [0]
    for _ in range(most):
        further = dict(level)
        for contents, many in level.items():
            for event in all_events():
                told = step(link, contents, event)
                if told is not None:
                    letters = many + rightly(told, event)
                    if letters > further.get(told[0], -1):
                        further[told[0]] = letters
        level = further
        found.append(max(level.values()))
    return found


class Letters(unittest.TestCase):
    """Points 58 and 59."""

    def test_the_examples_of_the_document(self):
        two, one = (2, 2, 2, 2), (1, 1, 1, 1)
        self.assertEqual(turn_cost(two), 8)
        self.assertEqual(
            [most_right(two, 3), most_right(two, 12), events_for(two, 2), most_right(one, 10 ** 29)],
            [0, 2, 12, 33333333333333333333333333333])
        round_of_two = [("send",), ("bring", "new"), ("hear", 0), ("send",), ("bring", "new"), ("hear", 1)]
        self.assertEqual(
            [busy_run(one, 1), is_busy_run(one, 1, [("send",), ("send",)]), rate_of(one, REST, [(round_of_two, 0)])],
            [[("send",), ("bring", "new")], False, None])

    def test_all_runs_of_small_links(self):
        for link in SOUND:
            found = most_by_events(link, 2 * link[2] + 2 * turn_cost(link) + 1)
            self.assertGreater(found[-1], 1)
            for many, letters in enumerate(found):
                self.assertEqual(most_right(link, many), letters)
                self.assertEqual(events_for(link, letters), found.index(letters))

    def test_numbers_of_any_size(self):
        draw = random.Random(591)
        links = some_sound_links(draw)
        for link in SOUND + [next(links) for _ in range(100)]:
            cost = 2 * link[2] + 3 * link[3] - 2
            self.assertEqual(turn_cost(link), cost)
            self.assertEqual([events_for(link, 0), events_for(link, 1)], [0, 2 * link[2]])
            for letters in (1, 2, 3, draw.randint(1, BIG)):
                many = events_for(link, letters)
                self.assertEqual(many, 2 * link[2] + (letters - 1) * cost)
                self.assertEqual([most_right(link, many - 1), most_right(link, many)], [letters - 1, letters])
                self.assertEqual(most_right(link, many + cost - 1), letters)

    def test_busy_runs(self):
        for link in SOUND + [(3, 2, 3, 2), (2, 2, 9, 9), (BIG, 1, BIG, 1)]:
            letters = 0
            while events_for(link, letters) <= 300:
                run = busy_run(link, letters)
                self.assertEqual(len(run), events_for(link, letters))
                told = walk(link, empty(link, 0), run)
                self.assertEqual(told[1:2] + told[3:], ([], list(range(letters))))
                self.assertIs(is_busy_run(link, letters, run), True)
                self.assertIs(is_busy_run(link, letters + 1, run), False)
                self.assertIs(is_busy_run(link, letters, run + [("send",)]), False)
                if run:
                    self.assertIs(is_busy_run(link, letters, run[:-1]), False)
                    self.assertIs(is_busy_run(link, letters, run[:-1] + [("drop", "new")]), False)
                    self.assertIs(is_busy_run(link, letters, run[:-1] + [("hear", 0)]), False)
                letters += 1
            with self.assertRaises(TooMany) as caught:
                busy_run(link, letters)
            self.assertEqual(caught.exception.value, events_for(link, letters))

    def test_just_three_hundred_events_and_more(self):
        self.assertEqual(len(busy_run((1, 1, 150, 1), 1)), 300)
        self.assertEqual(len(busy_run((1, 1, 3, 2), 30)), 296)
        self.assertEqual(len(busy_run((1, 1, 2, 1), 60)), 299)
        for link, letters, many in (((1, 1, 1, 1), 101, 302), ((1, 1, 151, 1), 1, 302), ((BIG, 1, BIG, 1), 1, 2 * BIG)):
            with self.assertRaises(TooMany) as caught:
                busy_run(link, letters)
            self.assertEqual(caught.exception.value, many)

    def test_other_busy_runs_and_longer_ones(self):
        sent_first = [("send",), ("send",), ("bring", "new"), ("bring", "new")]
        self.assertIs(is_busy_run((2, 2, 2, 2), 1, sent_first), True)
        self.assertIs(is_busy_run((2, 2, 2, 2), 0, []), True)
        self.assertIs(is_busy_run((2, 2, 2, 2), 0, [("send",)]), False)
        turn = [("send",), ("bring", "new"), ("hear", 0), ("send",), ("bring", "new"), ("hear", 1)]
        self.assertIs(is_busy_run((1, 1, 1, 1), 200, (turn * 100)[:-1]), True)
        self.assertIs(is_busy_run((1, 1, 1, 1), 199, (turn * 100)[:-1]), False)
        self.assertIs(is_busy_run((1, 1, 1, 1), 200, (turn * 100)[1:]), False)


class Rates(unittest.TestCase):
    """Point 60."""

    def test_far_runs(self):
        draw = random.Random(601)
        for link in SOUND + UNSOUND[:3]:
            for _ in range(100):
                start = now = draw.choice([REST, some_contents_of(link, draw)])
                run, letters = [], 0
                for _ in range(draw.randint(0, 30)):
                    found = [event for event in all_events() if step(link, now, event)]
                    event = draw.choice([one for one in found if one[0] in ("send", "bring", "hear")] or found)
                    told = step(link, now, event)
                    now, letters = told[0], letters + rightly(told, event)
                    run.append(event)
                rate = rate_of(link, start, [([event], 1) for event in run] + [([("send",)], 0)])
                if not run:
                    self.assertIsNone(rate)
                    continue
                number, of = rate
                self.assertEqual((number * len(run), math.gcd(number, of)), (letters * of, 1))
        self.assertEqual(rate_of((1, 1, 1, 1), REST, [([("send",)], 1), ([("drop", "new")], 1)]), (0, 1))
        self.assertIsNone(rate_of((1, 1, 1, 1), REST, []))

    def test_great_far_runs(self):
        wide = (3, 1, 10 ** 20, 10 ** 20)
        far = [
            ([("send",), ("bring", "new")], 10 ** 20), ([("hear", 0), ("send",), ("bring", "new")], 10 ** 20 - 1),
            ([("hear", 0)], 1)]
        self.assertEqual(rate_of(wide, REST, far), (1, 5 * 10 ** 20 - 2))
        self.assertEqual(rate_of(wide, REST, far), (1, turn_cost(wide)))

    def test_a_round_of_turns_has_the_greatest_rate(self):
        for link in SOUND:
            start, far = empty(link, 0), []
            for bit in (0, 1):
                far += [
                    ([("send",), ("bring", "new")], link[2]),
                    ([("hear", bit), ("send",), ("bring", "new")], link[3] - 1), ([("hear", bit)], 1)]
            self.assertEqual(far_after(link, start, far), start)
            self.assertEqual(far_handed(link, start, far), (2, 0, 0))
            self.assertEqual(rate_of(link, start, far), (1, turn_cost(link)))

    def test_no_round_whatever_has_a_greater_one(self):
        """With the worth of a turn for each letter, less 1 for each event, nothing grows for ever, from anywhere."""
        for link in SOUND:
            cost, found, steps = turn_cost(link), {}, {}
            for contents in all_contents(link):
                found[contents] = 0
                told = [(step(link, contents, event), event) for event in all_events()]
                steps[contents] = [(one[0], cost * rightly(one, event) - 1) for one, event in told if one is not None]
            for _ in range(len(found)):
                grown = False
                for contents, rows in steps.items():
                    most = max([found[later] + worth for later, worth in rows])
                    if most > found[contents]:
                        found[contents], grown = most, True
                if not grown:
                    break
            self.assertFalse(grown)


class Refused(unittest.TestCase):
    """Points 2, 5, 58 to 60."""

    def test_errors(self):
        links, contents = (InvalidLink, BAD_LINKS), (InvalidContents, BAD_CONTENTS)
        counts = (InvalidNumber, BAD_COUNTS)
        check_errors(self, turn_cost, ["link"], [LINK], [links])
        check_errors(self, most_right, ["link", "many"], [LINK, 5], [links, counts])
        for function in (events_for, busy_run):
            check_errors(self, function, ["link", "letters"], [LINK, 5], [links, counts])
        check_errors(self, is_busy_run, ["link", "letters", "value"], [LINK, 5, None], [links, counts, None])
        none = [[([("hear", 0)], 1)], [([("bring", "one")], 3)]]
        check_errors(
            self, rate_of, ["link", "contents", "far"], [LINK, MIXED, [([("bring", "one")], 2)]],
            [links, contents, (InvalidRun, BAD_FARS + none)])

    def test_a_sound_link_is_wanted_behind_all_other_errors(self):
        for link in UNSOUND:
            for function, name in ((most_right, "many"), (events_for, "letters"), (busy_run, "letters")):
                for number in (0, 3, BIG):
                    expect(self, function, ["link", name], [link, number], Unlike, link)
                expect(self, function, ["link", name], [link, -1], InvalidNumber, -1)
                expect(self, function, ["link", name], [link, True], InvalidNumber, True)
            names = ["link", "letters", "value"]
            expect(self, is_busy_run, names, [link, 0, []], Unlike, link)
            expect(self, is_busy_run, names, [link, None, []], InvalidNumber, None)
            self.assertEqual(turn_cost(link), 2 * link[2] + 3 * link[3] - 2)
            self.assertEqual(rate_of(link, REST, [([("send",), ("drop", "new")], 2)]), (0, 1))

    def test_any_value_is_judged(self):
        for value in BAD_RUNS + ODD_VALUES:
            self.assertIs(is_busy_run(LINK, 1, value), False)
            self.assertIs(is_busy_run(LINK, 0, value), value == [])

    def test_new_lists(self):
        far = [([("bring", "one"), ("send",)], 1)]
        check_unchanged(self, rate_of, LINK, MIXED, far)
        run = check_unchanged(self, busy_run, LINK, 3)
        check_unchanged(self, is_busy_run, LINK, 3, run)


if __name__ == "__main__":
    unittest.main()
