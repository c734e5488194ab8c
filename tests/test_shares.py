import math
import random
import unittest

from healwires.contents import is_contents
from healwires.counting import how_many_contents
from healwires.errors import InvalidContents, InvalidLink, InvalidNumber, Unlike
from healwires.harm import harm
from healwires.shares import (
    least_weights, mean_harm, next_of_harm, number_of_its_harm, of_harm_numbered, of_harms, other_done, share_of,
    weight_of,
)
from model import (
    BAD_CONTENTS, BAD_COUNTS, BAD_HARMS, BAD_LINKS, all_contents, check_errors, check_unchanged, expect, harms,
    in_order, some_contents_of, some_sound_links,
)

LINK = (3, 2, 4, 4)
MIXED = ((0, 2), (1, ("old", 3), True), (1, 0, 2), (0, 1))
BIG = 10 ** 29
SOUND = [
    (1, 1, 1, 1), (1, 1, 2, 2), (2, 1, 2, 1), (2, 1, 3, 2), (1, 2, 1, 2), (1, 2, 2, 3), (2, 2, 2, 2), (1, 1, 3, 3),
    (3, 1, 3, 1), (1, 3, 1, 3),
]
UNSOUND = [(2, 1, 1, 1), (1, 2, 1, 1), (3, 2, 2, 2), (BIG, 1, BIG - 1, 1), (1, BIG, 1, BIG - 1)]
START = ((0, 0), (1, None, False), (0, 0, 0), (0, 0))
GREAT = [
    (BIG, BIG, BIG, BIG), (BIG, 1, BIG, 1), (1, BIG, 1, BIG), (1, 1, BIG, BIG), (BIG - 5, BIG - 7, BIG, BIG),
    (10 ** 20, 10 ** 19, 10 ** 21, 10 ** 22), (BIG, BIG, BIG + 1, BIG),
]


def weight(contents):
    lot = contents[1][1]
    return contents[0][1] + (lot[1] if lot else 0) + sum(contents[2]) + sum(contents[3])


def in_lowest_terms(number, total):
    return (number // math.gcd(number, total), total // math.gcd(number, total))


class Shares(unittest.TestCase):
    """Point 34."""

    def test_the_examples_of_the_document(self):
        small, two = (1, 1, 1, 1), (2, 2, 2, 2)
        self.assertEqual(
            [of_harms(small), of_harms(two), share_of(two, 3), share_of(small, 0), mean_harm(small)],
            [[30, 46, 18, 2], [744, 1160, 456, 40], (1, 60), (5, 16), (11, 12)])
        self.assertEqual(
            [of_harm_numbered(two, 3, 0), of_harm_numbered(two, 3, 4), of_harm_numbered(two, 3, 40)],
            [((0, 0), (0, None, False), (0, 0, 2), (2, 0)), ((0, 0), (0, ("old", 1), False), (1, 0, 1), (2, 0)), None])
        last = ((1, 1), (1, ("old", 1), False), (1, 1, 0), (1, 1))
        self.assertEqual(
            [number_of_its_harm(two, last), next_of_harm(two, last), weight_of(two, last), least_weights(two),
             least_weights((1, 1, 3, 2)), other_done(two, last)],
            [39, None, 6, [0, 0, 2, 4], [0, 0, 2, 5], ((1, 1), (1, ("old", 1), True), (1, 1, 0), (1, 1))])

    def test_all_contents_of_small_links(self):
        for link in SOUND:
            found = list(harms(link).values())
            counts = [found.count(many) for many in range(4)]
            self.assertEqual(of_harms(link), counts)
            for many in range(4):
                self.assertEqual(share_of(link, many), in_lowest_terms(counts[many], len(found)))
            self.assertEqual(mean_harm(link), in_lowest_terms(sum(found), len(found)))

    def test_great_links(self):
        draw = random.Random(61)
        links = some_sound_links(draw)
        for link in GREAT + [next(links) for _ in range(200)]:
            counts, total = of_harms(link), how_many_contents(link)
            self.assertEqual(sum(counts), total)
            self.assertEqual(2 * (counts[1] + counts[3]), total)
            self.assertTrue(min(counts) > 0)
            for many in range(4):
                number, of = share_of(link, many)
                self.assertEqual((number * total, math.gcd(number, of)), (counts[many] * of, 1))
            number, of = mean_harm(link)
            harms_together = counts[1] + 2 * counts[2] + 3 * counts[3]
            self.assertEqual((number * total, math.gcd(number, of)), (harms_together * of, 1))

    def test_done_the_other_way(self):
        for link in SOUND:
            for contents in all_contents(link):
                other = other_done(link, contents)
                bit, lot, done = contents[1]
                self.assertEqual(other, (contents[0], (bit, lot, not done)) + contents[2:])
                self.assertEqual(abs(harm(link, contents) - harm(link, other)), 1)
        for link in UNSOUND:
            self.assertEqual(other_done(link, START), ((0, 0), (1, None, True), (0, 0, 0), (0, 0)))


class Numbers(unittest.TestCase):
    """Point 35."""

    def test_all_contents_of_small_links(self):
        for link in SOUND:
            told = harms(link)
            for many in range(4):
                found = sorted((contents for contents in told if told[contents] == many), key=in_order)
                for number, contents in enumerate(found):
                    self.assertEqual(number_of_its_harm(link, contents), number)
                    if len(found) < 300 or number % 5 == 0 or number > len(found) - 5:
                        self.assertEqual(of_harm_numbered(link, many, number), contents)
                        later = found[number + 1] if number + 1 < len(found) else None
                        self.assertEqual(next_of_harm(link, contents), later)
                for number in (len(found), len(found) + 1, 10 ** 300):
                    self.assertIsNone(of_harm_numbered(link, many, number))

    def test_great_links(self):
        draw = random.Random(62)
        links = some_sound_links(draw)
        for link in GREAT + [next(links) for _ in range(40)]:
            counts = of_harms(link)
            for many in range(4):
                numbers = sorted(draw.randrange(counts[many]) for _ in range(3))
                found = [of_harm_numbered(link, many, number) for number in numbers]
                for number, contents in zip(numbers, found):
                    self.assertTrue(is_contents(link, contents))
                    self.assertEqual(harm(link, contents), many)
                    self.assertEqual(number_of_its_harm(link, contents), number)
                    later = next_of_harm(link, contents)
                    self.assertEqual(later, of_harm_numbered(link, many, number + 1))
                    if later is not None:
                        self.assertTrue(in_order(contents) < in_order(later))
                        self.assertEqual(number_of_its_harm(link, later), number + 1)
                self.assertEqual(sorted(found, key=in_order), found)

    def test_drawn_contents_have_their_numbers(self):
        draw = random.Random(63)
        links = some_sound_links(draw)
        for _ in range(100):
            link = next(links)
            contents = some_contents_of(link, draw)
            many = harm(link, contents)
            self.assertEqual(of_harm_numbered(link, many, number_of_its_harm(link, contents)), contents)

    def test_the_first_and_the_last(self):
        for link in GREAT:
            for many, count in enumerate(of_harms(link)):
                first, last = of_harm_numbered(link, many, 0), of_harm_numbered(link, many, count - 1)
                self.assertEqual((number_of_its_harm(link, first), number_of_its_harm(link, last)), (0, count - 1))
                self.assertIsNone(next_of_harm(link, last))
                self.assertIsNone(of_harm_numbered(link, many, count))
            self.assertEqual(of_harm_numbered(link, 1, 0), ((0, 0), (0, None, False), (0, 0, 0), (0, 0)))
            self.assertEqual(of_harm_numbered(link, 0, 0), ((0, 0), (0, None, True), (0, 0, 0), (0, 0)))


class Weights(unittest.TestCase):
    """Point 36."""

    def test_least_weights_of_small_links(self):
        for link in SOUND + [(2, 1, 2, 4), (1, 2, 5, 2)]:
            least = {}
            for contents, many in harms(link).items():
                self.assertEqual(weight_of(link, contents), weight(contents))
                least[many] = min(least.get(many, BIG), weight(contents))
            self.assertEqual(least_weights(link), [least[many] for many in range(4)])

    def test_great_links(self):
        self.assertEqual(least_weights((BIG, 1, BIG, BIG - 1)), [0, 0, BIG - 1, 2 * BIG - 1])
        link = (BIG, BIG, BIG, BIG)
        contents = ((0, BIG - 1), (1, ("new", BIG - 1), False), (1, 2, BIG - 3), (3, BIG - 3))
        self.assertEqual(weight_of(link, contents), 4 * BIG - 2)

    def test_weights_of_all_links(self):
        for link in UNSOUND:
            self.assertEqual(weight_of(link, START), 0)
            self.assertEqual(weight_of(link, ((0, 0), (1, None, False), (1, 0, 0), (0, 1))), 2)


class Refused(unittest.TestCase):
    """Points 2, 5, 34 to 36."""

    def test_errors(self):
        links, contents = (InvalidLink, BAD_LINKS), (InvalidContents, BAD_CONTENTS)
        many, number = (InvalidNumber, BAD_HARMS), (InvalidNumber, BAD_COUNTS)
        for function in (of_harms, least_weights, mean_harm):
            check_errors(self, function, ["link"], [LINK], [links])
        check_errors(self, share_of, ["link", "many"], [LINK, 3], [links, many])
        check_errors(self, of_harm_numbered, ["link", "many", "number"], [LINK, 0, 4], [links, many, number])
        for function in (other_done, number_of_its_harm, next_of_harm, weight_of):
            check_errors(self, function, ["link", "contents"], [LINK, MIXED], [links, contents])

    def test_a_sound_link_is_wanted_behind_all_other_errors(self):
        pair, triple = ["link", "contents"], ["link", "many", "number"]
        for link in UNSOUND:
            for function in (of_harms, least_weights, mean_harm):
                expect(self, function, ["link"], [link], Unlike, link)
            for many in range(4):
                expect(self, share_of, triple[:2], [link, many], Unlike, link)
            expect(self, share_of, triple[:2], [link, 4], InvalidNumber, 4)
            expect(self, share_of, triple[:2], [link, True], InvalidNumber, True)
            expect(self, of_harm_numbered, triple, [link, 3, 0], Unlike, link)
            expect(self, of_harm_numbered, triple, [link, -1, None], InvalidNumber, -1)
            expect(self, of_harm_numbered, triple, [link, 3, -2], InvalidNumber, -2)
            for function in (number_of_its_harm, next_of_harm):
                expect(self, function, pair, [link, START], Unlike, link)
                expect(self, function, pair, [link, None], InvalidContents, None)

    def test_new_lists(self):
        check_unchanged(self, of_harms, LINK)
        check_unchanged(self, least_weights, LINK)
        check_unchanged(self, next_of_harm, LINK, MIXED)
        check_unchanged(self, of_harm_numbered, LINK, 2, 7)


if __name__ == "__main__":
    unittest.main()
