import itertools
import math
import random
import unittest

from healwires.contents import is_contents
from healwires.counting import (
    all_contents, contents_numbered, how_many_contents, how_many_such, next_contents, number_of_contents,
)
from healwires.errors import InvalidContents, InvalidLink, InvalidNumber, TooMany
from healwires.harm import signs
from model import (
    BAD_BOOLEANS, BAD_CONTENTS, BAD_COUNTS, BAD_LINKS, check_errors, check_unchanged, expect, in_order,
    some_contents_of,
)
import model

LINK = (3, 2, 4, 4)
MIXED = ((0, 2), (1, ("old", 3), True), (1, 0, 2), (0, 1))
BIG = 10 ** 29
# Sound ones and others: p and q equal to c and d, greater, less, 1.
SMALL = [
    (1, 1, 1, 1), (1, 1, 2, 2), (2, 1, 2, 1), (1, 2, 1, 2), (2, 1, 3, 2), (1, 2, 2, 3), (2, 2, 2, 2), (2, 1, 1, 1),
    (1, 2, 1, 1), (3, 1, 2, 1), (1, 3, 1, 2), (3, 3, 1, 1), (2, 2, 1, 3), (1, 1, 5, 1), (1, 1, 1, 7), (3, 2, 4, 2),
]
GREAT = [
    (BIG, BIG, BIG, BIG), (BIG, 1, 1, BIG), (1, BIG, BIG, 1), (BIG, BIG, 1, 1), (1, 1, BIG, BIG),
    (10 ** 20, 10 ** 19, 10 ** 21, 10 ** 22), (BIG - 3, BIG, BIG - 7, BIG + 9), (3, 3, 3, BIG),
]


def ordered(link):
    return sorted(model.all_contents(link), key=in_order)


def first_of(link):
    return ((0, 0), (0, None, False), (0, 0, 0), (0, 0))


def last_of(link):
    c, d, p, q = link
    return ((1, q - 1), (1, ("old", p - 1) if p > 1 else None, True), (c, 0, 0), (d, 0))


def behind_in_order(link, contents):
    """The contents behind some, place by place; None behind the last."""
    c, d, p, q = link
    (bit, heard), (other, lot, done), (new, zeros, ones), (nays, yeas) = contents
    back = next_counts((nays, yeas), d)
    if back:
        return contents[:3] + (back,)
    there = next_counts((new, zeros, ones), c)
    if there:
        return contents[:2] + (there, (0, 0))
    rest = ((0, 0, 0), (0, 0))
    if not done:
        return ((bit, heard), (other, lot, True)) + rest
    many = lot[1] if lot else 0
    if lot is None and p > 1:
        return ((bit, heard), (other, ("old" if bit == other else "new", 1), False)) + rest
    if many < p - 1:
        return ((bit, heard), (other, (lot[0], many + 1), False)) + rest
    if lot and lot[0] == "new":
        return ((bit, heard), (other, ("old", 1), False)) + rest
    if other == 0:
        return ((bit, heard), (1, None, False)) + rest
    if heard < q - 1:
        return ((bit, heard + 1), (0, None, False)) + rest
    return ((1, 0), (0, None, False)) + rest if bit == 0 else None


def next_counts(counts, room):
    """The counts behind some, in order, None behind the last."""
    if sum(counts) < room:
        return counts[:-1] + (counts[-1] + 1,)
    for place in reversed(range(1, len(counts))):
        if counts[place] > 0:
            return counts[:place - 1] + (counts[place - 1] + 1,) + (0,) * (len(counts) - place)
    return None


def great_links(draw):
    while True:
        yield tuple(draw.choice([1, 2, 3, BIG, draw.randint(1, BIG), draw.randint(1, 10)]) for _ in range(4))


class Counting(unittest.TestCase):
    """Point 31."""

    def test_the_examples_of_the_document(self):
        small, two = (1, 1, 1, 1), (2, 2, 2, 2)
        self.assertEqual(
            [how_many_contents(small), how_many_contents(two), how_many_contents((3, 2, 4, 4)),
             len(all_contents(small))],
            [96, 2400, 21120, 96])
        self.assertEqual(
            [contents_numbered(small, 7), contents_numbered(small, 96),
             number_of_contents(small, ((1, 0), (1, None, True), (1, 0, 0), (1, 0)))],
            [((0, 0), (0, None, False), (0, 1, 0), (0, 1)), None, 95])
        self.assertEqual(
            next_contents(two, ((0, 0), (0, None, False), (0, 0, 0), (0, 0))),
            ((0, 0), (0, None, False), (0, 0, 0), (0, 1)))
        self.assertEqual(
            [how_many_such(two, True, False, True, True), how_many_such(two, False, False, False, False)], [40, 384])

    def test_all_contents_of_small_links(self):
        for link in SMALL:
            found = ordered(link)
            self.assertEqual(how_many_contents(link), len(found))
            if len(found) <= 2000:
                self.assertEqual(all_contents(link), found)
            else:
                with self.assertRaises(TooMany) as caught:
                    all_contents(link)
                self.assertEqual(caught.exception.value, len(found))

    def test_just_two_thousand_and_more(self):
        for link, many in (((2, 3, 2, 1), 2000), ((1, 1, 14, 1), 1968), ((1, 1, 7, 2), 1920), ((1, 3, 1, 6), 1920)):
            found = all_contents(link)
            self.assertEqual(len(found), many)
            self.assertEqual(found, ordered(link))
        for link, many in (((1, 1, 1, 21), 2016), ((2, 2, 2, 2), 2400), ((BIG, BIG, 1, 1), None)):
            with self.assertRaises(TooMany) as caught:
                all_contents(link)
            self.assertEqual(caught.exception.value, many or how_many_contents(link))

    def test_the_formula_of_the_document(self):
        draw = random.Random(51)
        links = great_links(draw)
        for link in GREAT + [next(links) for _ in range(300)]:
            c, d, p, q = link
            three, two = (c + 3) * (c + 2) * (c + 1) // 6, (d + 2) * (d + 1) // 2
            self.assertEqual(how_many_contents(link), 4 * q * (3 * p - 1) * three * two)


class Numbers(unittest.TestCase):
    """Point 32."""

    def test_all_contents_of_small_links(self):
        for link in SMALL:
            found = ordered(link)
            for number, contents in enumerate(found):
                self.assertEqual(number_of_contents(link, contents), number)
                if number % 7 < 3 or number > len(found) - 9 or len(found) < 400:
                    self.assertEqual(contents_numbered(link, number), contents)
                    later = found[number + 1] if number + 1 < len(found) else None
                    self.assertEqual(next_contents(link, contents), later)
                    self.assertEqual(behind_in_order(link, contents), later)
            for number in (len(found), len(found) + 1, 2 * len(found), BIG, 10 ** 300):
                self.assertIsNone(contents_numbered(link, number))

    def test_great_links(self):
        draw = random.Random(52)
        links = great_links(draw)
        for link in GREAT + [next(links) for _ in range(60)]:
            total = how_many_contents(link)
            for _ in range(4):
                contents = some_contents_of(link, draw)
                number = number_of_contents(link, contents)
                self.assertTrue(0 <= number < total)
                self.assertEqual(contents_numbered(link, number), contents)
                later = behind_in_order(link, contents)
                self.assertEqual(next_contents(link, contents), later)
                if later is None:
                    self.assertEqual(number, total - 1)
                else:
                    self.assertEqual(number_of_contents(link, later), number + 1)
            numbers = sorted(draw.randrange(total) for _ in range(4))
            found = [contents_numbered(link, number) for number in numbers]
            self.assertEqual([number_of_contents(link, contents) for contents in found], numbers)
            self.assertTrue(all(is_contents(link, contents) for contents in found))
            self.assertEqual(sorted(found, key=in_order), found)

    def test_the_first_and_the_last(self):
        for link in SMALL + GREAT:
            total = how_many_contents(link)
            self.assertEqual(contents_numbered(link, 0), first_of(link))
            self.assertEqual(number_of_contents(link, first_of(link)), 0)
            self.assertEqual(contents_numbered(link, total - 1), last_of(link))
            self.assertEqual(number_of_contents(link, last_of(link)), total - 1)
            self.assertIsNone(contents_numbered(link, total))
            self.assertIsNone(next_contents(link, last_of(link)))

    def test_where_the_first_parts_change(self):
        """The middle of all contents, and of all those with a bit of the sender and what it heard."""
        for link in GREAT:
            total = how_many_contents(link)
            self.assertEqual(contents_numbered(link, total // 2), ((1, 0),) + first_of(link)[1:])
            each = total // (2 * link[3])
            for heard in [heard for heard in (0, 1, link[3] // 2, link[3] - 1) if heard < link[3]]:
                self.assertEqual(contents_numbered(link, heard * each), ((0, heard),) + first_of(link)[1:])
            alike = link[2] * 2 * math.comb(link[0] + 3, 3) * math.comb(link[1] + 2, 2)
            self.assertEqual(contents_numbered(link, alike), ((0, 0), (1, None, False), (0, 0, 0), (0, 0)))


class Such(unittest.TestCase):
    """Point 33."""

    def test_all_contents_of_small_links(self):
        for link in SMALL:
            told = [signs(link, contents) for contents in model.all_contents(link)]
            for row in itertools.product((False, True), repeat=4):
                self.assertEqual(how_many_such(link, *row), told.count(row), (link, row))

    def test_the_formulas_of_the_document(self):
        def choose(n, k):
            return math.comb(n, k) if n >= 0 else 0

        draw = random.Random(53)
        links = great_links(draw)
        for link in GREAT + [next(links) for _ in range(200)]:
            c, d, p, q = link
            answered = choose(d + 2, 3) - choose(d - q + 2, 3)
            for even, done in itertools.product((False, True), repeat=2):
                kept = choose(c - p + 3, 3) * (1 if even else p) + choose(c + 3, 4) - choose(c - p + 4, 4)
                self.assertEqual(how_many_such(link, even, done, True, True), 2 * answered * kept)
                rest = q * choose(d + 2, 2) - answered
                self.assertEqual(how_many_such(link, even, done, False, True), 2 * rest * kept)
            self.assertEqual(
                sum(how_many_such(link, *row) for row in itertools.product((False, True), repeat=4)),
                how_many_contents(link))


class Refused(unittest.TestCase):
    """Points 2, 5, 31 to 33."""

    def test_errors(self):
        links, contents = (InvalidLink, BAD_LINKS), (InvalidContents, BAD_CONTENTS)
        check_errors(self, how_many_contents, ["link"], [LINK], [links])
        check_errors(self, all_contents, ["link"], [(1, 1, 1, 1)], [links])
        check_errors(
            self, contents_numbered, ["link", "number"], [LINK, 5], [links, (InvalidNumber, BAD_COUNTS)])
        for function in (number_of_contents, next_contents):
            check_errors(self, function, ["link", "contents"], [LINK, MIXED], [links, contents])
        no_booleans = (InvalidNumber, BAD_BOOLEANS)
        check_errors(
            self, how_many_such, ["link", "even", "done", "enough_answers", "enough_old"],
            [LINK, True, False, True, False], [links] + [no_booleans] * 4)

    def test_numbers_in_the_place_of_booleans(self):
        names = ["link", "even", "done", "enough_answers", "enough_old"]
        for place in range(4):
            for value in (0, 1):
                signs_given = [True, False, True, False]
                signs_given[place] = value
                expect(self, how_many_such, names, [LINK] + signs_given, InvalidNumber, value)

    def test_all_links_are_taken(self):
        for link in ((2, 1, 1, 1), (BIG, 1, BIG - 1, 1), (1, BIG, 1, BIG - 1)):
            self.assertEqual(contents_numbered(link, 0), first_of(link))
            self.assertEqual(number_of_contents(link, first_of(link)), 0)
            self.assertEqual(next_contents(link, first_of(link)), first_of(link)[:3] + ((0, 1),))

    def test_new_lists(self):
        check_unchanged(self, all_contents, (1, 1, 1, 1))
        check_unchanged(self, contents_numbered, LINK, 9)
        check_unchanged(self, next_contents, LINK, MIXED)
        check_unchanged(self, number_of_contents, LINK, MIXED)


if __name__ == "__main__":
    unittest.main()
