import random
import unittest

from healwires.contents import is_contents
from healwires.errors import InvalidContents, InvalidDeed, InvalidLink, InvalidNumber, Unlike
from healwires.harm import harm
from healwires.mending import (
    cheapest_mendings, cost_of, dearer_events, greatest_cost, is_cheapest, is_mending, mended, mending_cost,
)
from healwires.steps import behind, possible_events
from model import (
    BAD_CONTENTS, BAD_COUNTS, BAD_LINKS, ODD_VALUES, WORD_LISTS, all_mendings, check_errors, check_unchanged,
    drawn_contents, expect, harms, price_of, some_contents_of, some_sound_links,
)
import model

LINK = (3, 2, 4, 4)
MIXED = ((0, 2), (1, ("old", 3), True), (1, 0, 2), (0, 1))
BIG = 10 ** 29
# p equal to c and more, q equal to d and more, both 1 or more.
SOUND = [
    (1, 1, 1, 1), (1, 1, 2, 1), (1, 1, 1, 2), (1, 1, 2, 2), (2, 1, 2, 1), (2, 1, 3, 2), (1, 2, 1, 2), (1, 2, 2, 3),
    (1, 2, 1, 3), (2, 2, 2, 2), (2, 1, 2, 2), (3, 1, 3, 1), (1, 3, 1, 3),
]
UNSOUND = [(2, 1, 1, 1), (1, 2, 1, 1), (3, 2, 2, 2), (BIG, 1, BIG - 1, 1), (1, BIG, 1, BIG - 1)]
START = ((0, 0), (1, None, False), (0, 0, 0), (0, 0))
# What is none of MIXED, of LINK: in the wires there lie two old ones of bit 1, and an answer of bit 1.
BAD_MENDINGS = ODD_VALUES + [
    [[], (0, 0, 0, 0)], ([],), ([], (0, 0, 0, 0), 0), ((), (0, 0, 0, 0)), ([], [0, 0, 0, 0]), ([], (0, 0, 0)),
    ([], (0, 0, 0, 0, 0)), (None, (0, 0, 0, 0)), ([], None), (["turn", "clear"], (0, 0, 0, 0)),
    (["forget", "clear"], (0, 0, 0, 0)), (["clear", "clear"], (0, 0, 0, 0)),
    (["clear", "turn", "forget"], (0, 0, 0, 0)),
    (["forget", "forget"], (0, 0, 0, 0)), (["clean"], (0, 0, 0, 0)), ("clear", (0, 0, 0, 0)), ([None], (0, 0, 0, 0)),
    ([["clear"]], (0, 0, 0, 0)), (("clear",), (0, 0, 0, 0)), ({"clear": 1}, (0, 0, 0, 0)), ([], (1, 0, 0, 0)),
    ([], (0, 3, 0, 0)), ([], (0, 0, 1, 0)), ([], (0, 0, 0, 2)), ([], (0, -1, 0, 0)), ([], (0, True, 0, 0)),
    ([], (0, 1, 0, True)), ([], (0, "1", 0, 0)), ([], (0, None, 0, 0)), ([], (False, 0, 0, 0)), ([], (0, 0, 0, [])),
]


class Mendings(unittest.TestCase):
    """Point 37."""

    def test_the_examples_of_the_document(self):
        link, bad = (3, 3, 3, 3), ((0, 2), (0, ("old", 2), False), (0, 1, 2), (2, 1))
        self.assertEqual(
            [mending_cost(link, bad, 0), mending_cost(link, bad, 1), mending_cost(link, bad, 3),
             cheapest_mendings(link, bad, 0), cheapest_mendings(link, bad, 1)],
            [2, 1, 0, [(["forget", "turn"], (0, 0, 0, 0))],
             [(["clear"], (0, 0, 0, 0)), (["forget"], (0, 0, 0, 0))]])
        self.assertEqual(
            [mended(link, bad, (["clear"], (0, 1, 0, 1))), cost_of(link, bad, (["clear"], (0, 1, 0, 1))),
             is_mending(link, bad, (["turn", "clear"], (0, 0, 0, 0))), is_cheapest(link, bad, 1, ([], (0, 1, 1, 0)))],
            [((0, 2), (0, None, False), (0, 1, 1), (2, 0)), 3, False, False])
        self.assertEqual(
            [greatest_cost(link, 0), greatest_cost((2, 1, 3, 2), 0), greatest_cost((10 ** 29, 1, 10 ** 29, 1), 0),
             greatest_cost(link, 1), greatest_cost(link, 3)],
            [4, 2, 3, 2, 0])
        self.assertEqual(
            dearer_events((2, 2, 2, 2), ((0, 0), (0, None, False), (0, 1, 0), (1, 0))), [("bring", "zero")])

    def test_all_mendings_of_small_links(self):
        for link in SOUND[:10] + UNSOUND[:3]:
            for contents in drawn_contents(link, 300):
                for mending in all_mendings(contents, 9):
                    self.assertIs(is_mending(link, contents, mending), True)
                    later = mended(link, contents, mending)
                    self.assertEqual(later, model.mended(contents, mending))
                    self.assertTrue(is_contents(link, later))
                    self.assertEqual(cost_of(link, contents, mending), price_of(mending))

    def test_each_word_and_all_together(self):
        link, contents = (9, 9, 9, 9), ((1, 5), (0, ("new", 4), True), (2, 3, 4), (5, 3))
        none = (0, 0, 0, 0)
        for words, later in (
            ([], contents), (["clear"], ((1, 5), (0, None, True)) + contents[2:]),
            (["forget"], ((1, 0), contents[1]) + contents[2:]), (["turn"], ((1, 5), (1, None, True)) + contents[2:]),
            (["clear", "forget", "turn"], ((1, 0), (1, None, True)) + contents[2:]),
        ):
            self.assertEqual(mended(link, contents, (words, none)), later)
            self.assertEqual(cost_of(link, contents, (words, none)), len(words))
        self.assertEqual(
            mended(link, contents, (["clear", "turn"], (3, 1, 4, 3))), ((1, 5), (1, None, True), (2, 0, 3), (1, 0)))
        self.assertEqual(cost_of(link, contents, (["clear", "turn"], (3, 1, 4, 3))), 13)
        self.assertTrue(is_mending(link, contents, ([], (3, 4, 5, 3))))
        for more in ((4, 0, 0, 0), (0, 5, 0, 0), (0, 0, 6, 0), (0, 0, 0, 4)):
            self.assertFalse(is_mending(link, contents, ([], more)))

    def test_words_that_change_nothing_cost_all_the_same(self):
        words = ["clear", "forget"]
        self.assertEqual(mended(LINK, START, (words, (0, 0, 0, 0))), START)
        self.assertEqual(cost_of(LINK, START, (words, (0, 0, 0, 0))), 2)

    def test_what_is_none(self):
        for value in BAD_MENDINGS:
            self.assertIs(is_mending(LINK, MIXED, value), False, value)
            for most in (0, 1, 2, 3):
                self.assertIs(is_cheapest(LINK, MIXED, most, value), False, value)

    def test_great_numbers(self):
        link, contents = (BIG, BIG, BIG, BIG), ((0, 7), (0, ("old", 9), False), (0, BIG - 5, 5), (BIG, 0))
        mending = (["forget"], (BIG - 5, 0, BIG, 0))
        self.assertEqual(mended(link, contents, mending), ((0, 0), (0, ("old", 9), False), (0, 0, 5), (0, 0)))
        self.assertEqual(cost_of(link, contents, mending), 2 * BIG - 4)
        self.assertFalse(is_mending(link, contents, (["forget"], (BIG - 4, 0, BIG, 0))))


class Cheapest(unittest.TestCase):
    """Points 38 and 39, held against trying all mendings that cost at most 4."""

    def check(self, link, contents, harm_of):
        tried = [(mending, harm_of(model.mended(contents, mending))) for mending in all_mendings(contents, 4)]
        costs = []
        for most in (0, 1, 2, 3, 4, BIG):
            enough = [mending for mending, many in tried if many <= most]
            least = min(price_of(mending) for mending in enough)
            found = [mending for mending in enough if price_of(mending) == least]
            self.assertEqual(mending_cost(link, contents, most), least, (link, contents, most))
            self.assertEqual(cheapest_mendings(link, contents, most), found, (link, contents, most))
            self.assertLessEqual(least, greatest_cost(link, most))
            costs.append(least)
        return costs

    def test_small_links(self):
        for link in SOUND:
            told, greatest = harms(link), [0] * 6
            for contents in told:
                costs = self.check(link, contents, told.__getitem__)
                greatest = [max(pair) for pair in zip(greatest, costs)]
            self.assertEqual([greatest_cost(link, most) for most in (0, 1, 2, 3, 4, BIG)], greatest, link)

    def test_no_dearer_one_is_among_them(self):
        for link in SOUND[:10]:
            told = harms(link)
            for contents in drawn_contents(link, 100):
                for most in (0, 1, 2):
                    least = mending_cost(link, contents, most)
                    for mending in all_mendings(contents, 9):
                        cheap = price_of(mending) == least and told[model.mended(contents, mending)] <= most
                        self.assertIs(is_cheapest(link, contents, most, mending), cheap)

    def test_great_links(self):
        draw = random.Random(71)
        links, greatest = some_sound_links(draw), 0
        for _ in range(400):
            link = next(links)
            contents = some_contents_of(link, draw)
            costs = self.check(link, contents, lambda later: harm(link, later))
            greatest = max(greatest, costs[0])
        self.assertGreater(greatest, 2)

    def test_the_greatest_costs_at_great_numbers(self):
        c, d = BIG, BIG - 1
        for link, costs in (
            ((c, d, c, d), [4, 2, 1, 0]), ((c, d, c + 1, d), [3, 1, 1, 0]), ((c, d, c, d + 1), [3, 1, 1, 0]),
            ((c, d, c + 1, d + 1), [2, 1, 1, 0]), ((c, 1, c, 1), [3, 1, 1, 0]), ((c, 1, c + 1, 1), [2, 1, 1, 0]),
            ((1, 1, 1, 1), [3, 1, 1, 0]), ((1, d, 1, d), [4, 2, 1, 0]), ((1, 1, 2, 2), [2, 1, 1, 0]),
        ):
            self.assertEqual([greatest_cost(link, most) for most in range(4)], costs)
            self.assertEqual([greatest_cost(link, most) for most in (4, BIG)], [0, 0])
            # Even, and odd: each bit is needed, where the wires are full of what it counts.
            q = link[3]
            even = ((0, q - 1), (0, None, False), (0, link[0], 0), (link[1], 0))
            other = ((0, q - 1), (0, None, False), (0, 0, link[0]), (link[1], 0))
            found = [max(mending_cost(link, one, most) for one in (even, other)) for most in range(4)]
            self.assertTrue(all(cost <= most for cost, most in zip(found, costs)), (link, found))
            if link[2] == link[0]:
                self.assertEqual(found[0], costs[0], link)

    def test_all_cheapest_ones_at_great_numbers(self):
        link, contents = (BIG, BIG, BIG, BIG), ((0, 1), (1, ("old", 1), False), (0, BIG, 0), (BIG, 0))
        self.assertEqual(
            cheapest_mendings(link, contents, 0),
            [([], (2, 0, 2, 0)), (["clear"], (1, 0, 2, 0)), (["clear", "forget"], (1, 0, 1, 0)),
             (["forget"], (2, 0, 1, 0))])
        contents = ((0, 5), (1, ("old", 7), False), (0, BIG, 0), (BIG, 0))
        self.assertEqual(cheapest_mendings(link, contents, 0), [(["clear", "forget"], (1, 0, 1, 0))])


class Later(unittest.TestCase):
    """Point 40."""

    def test_small_links(self):
        dearer = 0
        for link in SOUND:
            cost = {}
            for contents in model.all_contents(link):
                cost[contents] = [mending_cost(link, contents, most) for most in range(3)]
            for contents in cost:
                found = []
                for event in possible_events(link, contents):
                    ahead, later = cost[contents], cost[behind(link, contents, event)]
                    self.assertLessEqual(later[1:], ahead[1:])
                    self.assertTrue(later[1] <= ahead[1] and later[2] <= ahead[2])
                    if later[0] > ahead[0]:
                        found.append(event)
                self.assertEqual(dearer_events(link, contents), found)
                dearer += len(found) > 1
        self.assertGreater(dearer, 50)

    def test_great_links(self):
        draw, dearer = random.Random(72), 0
        links = some_sound_links(draw)
        for _ in range(300):
            link = next(links)
            contents = some_contents_of(link, draw)
            found = []
            for event in possible_events(link, contents):
                later = behind(link, contents, event)
                for most in (1, 2, 3):
                    self.assertLessEqual(mending_cost(link, later, most), mending_cost(link, contents, most))
                if mending_cost(link, later, 0) > mending_cost(link, contents, 0):
                    found.append(event)
            self.assertEqual(dearer_events(link, contents), found)
            dearer += len(found) > 0
        self.assertGreater(dearer, 5)

    def test_behind_a_mending_to_0_nothing_goes_wrong(self):
        for link in SOUND[:8]:
            told = harms(link)
            for contents in drawn_contents(link, 100):
                for mending in cheapest_mendings(link, contents, 0):
                    self.assertEqual(told[mended(link, contents, mending)], 0)


class Refused(unittest.TestCase):
    """Points 2, 5, 37 to 40."""

    def test_errors(self):
        links, contents = (InvalidLink, BAD_LINKS), (InvalidContents, BAD_CONTENTS)
        mendings, most = (InvalidDeed, BAD_MENDINGS), (InvalidNumber, BAD_COUNTS)
        pair = ["link", "contents"]
        check_errors(self, is_mending, pair + ["value"], [LINK, MIXED, None], [links, contents, None])
        good = [LINK, MIXED, (["clear", "turn"], (0, 2, 0, 1))]
        for function in (mended, cost_of):
            check_errors(self, function, pair + ["mending"], good, [links, contents, mendings])
        for function in (mending_cost, cheapest_mendings):
            check_errors(self, function, pair + ["most"], [LINK, MIXED, 0], [links, contents, most])
        check_errors(
            self, is_cheapest, pair + ["most", "value"], [LINK, MIXED, 3, None], [links, contents, most, None])
        check_errors(self, greatest_cost, ["link", "most"], [LINK, 0], [links, most])
        check_errors(self, dearer_events, pair, [LINK, MIXED], [links, contents])

    def test_a_sound_link_is_wanted_behind_all_other_errors(self):
        triple = ["link", "contents", "most"]
        for link in UNSOUND:
            for function, names, more in (
                (mending_cost, ["most"], [0]), (cheapest_mendings, ["most"], [9]),
                (is_cheapest, ["most", "value"], [1, None]), (dearer_events, [], []),
            ):
                expect(self, function, triple[:2] + names, [link, START] + more, Unlike, link)
                expect(self, function, triple[:2] + names, [link, None] + more, InvalidContents, None)
            expect(self, greatest_cost, ["link", "most"], [link, 0], Unlike, link)
            expect(self, greatest_cost, ["link", "most"], [link, None], InvalidNumber, None)
            for function in (mending_cost, cheapest_mendings):
                expect(self, function, triple, [link, START, True], InvalidNumber, True)
            expect(self, is_cheapest, triple + ["value"], [link, START, -1, 0], InvalidNumber, -1)

    def test_other_functions_take_every_link(self):
        for link in UNSOUND:
            for words in WORD_LISTS:
                self.assertTrue(is_mending(link, START, (words, (0, 0, 0, 0))))
                self.assertEqual(cost_of(link, START, (words, (0, 0, 0, 0))), len(words))
                bit = 0 if "turn" in words else 1
                self.assertEqual(mended(link, START, (words, (0, 0, 0, 0)))[1], (bit, None, False))

    def test_new_lists(self):
        link, bad = (3, 3, 3, 3), ((0, 2), (0, ("old", 2), False), (0, 1, 2), (2, 1))
        for most in range(4):
            for mending in check_unchanged(self, cheapest_mendings, link, bad, most):
                check_unchanged(self, is_cheapest, link, bad, most, mending)
                check_unchanged(self, mended, link, bad, mending)
                check_unchanged(self, cost_of, link, bad, mending)
                check_unchanged(self, is_mending, link, bad, mending)
        check_unchanged(self, dearer_events, (2, 2, 2, 2), ((0, 0), (0, None, False), (0, 1, 0), (1, 0)))


if __name__ == "__main__":
    unittest.main()
