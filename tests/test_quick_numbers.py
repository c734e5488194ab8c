"""Contents by their numbers, and the next ones, in little time: points 32 and 35."""

import random
import time
import unittest

from healwires import halving
from healwires.counting import contents_numbered, how_many_contents, next_contents, number_of_contents
from healwires.harm import harm
from healwires.shares import next_of_harm, number_of_its_harm, of_harm_numbered, of_harms
from model import in_order, some_contents_of, some_sound_links

GREAT = (7 * 10 ** 29 + 1, 6 * 10 ** 29 + 3, 8 * 10 ** 29 + 7, 9 * 10 ** 29 + 9)
START = (
    (1, 5 * 10 ** 29), (0, ("old", 3 * 10 ** 29), True), (10 ** 28, 10 ** 28, 3 * 10 ** 29), (2 * 10 ** 29, 10 ** 28),
)
SMALL = (2, 2, 2, 2)
FIRST = ((0, 0), (0, None, False), (0, 0, 0), (0, 0))
TIMES = 200
# What a fixed piece of work takes on the machine for which the limits of time were told.
PACE = 0.0022


def seconds(work):
    """The least time of a few that some work takes, so that what else the machine does counts little."""
    found = []
    for _ in range(4):
        began = time.perf_counter()
        work()
        found.append(time.perf_counter() - began)
    return min(found)


def fixed_work():
    """Calls and sums of about the kind that the package makes."""
    found = 0
    for number in range(10000):
        found += max(number, 7) * (10 ** 29 + number) // (number + 1)
    return found


def slowness():
    """How many times as slow as the machine of the limits this one is; 1 if it is not slower."""
    return max(1, seconds(fixed_work) / PACE)


def all_of_them(link, start):
    """Four lists of as many contents: the next ones, the next ones of a harm, those by their numbers of both kinds."""
    many, number, of_harm = harm(link, start), number_of_contents(link, start), number_of_its_harm(link, start)
    return [
        lambda: gone_on(next_contents, link, start),
        lambda: gone_on(next_of_harm, link, start),
        lambda: [contents_numbered(link, number + further) for further in range(1, TIMES + 1)],
        lambda: [of_harm_numbered(link, many, of_harm + further) for further in range(1, TIMES + 1)],
    ]


def gone_on(function, link, contents):
    """The next ones, one behind the other, None for each behind the last."""
    found = []
    for _ in range(TIMES):
        contents = None if contents is None else function(link, contents)
        found.append(contents)
    return found


def skewed(draw, total):
    """A number below a total, often near one of its ends."""
    away = min(total - 1, draw.randrange(2 ** draw.randint(1, total.bit_length())))
    return draw.choice([away, total - 1 - away, draw.randrange(total)])


class Quick(unittest.TestCase):
    def test_great_links(self):
        limit = 0.2 * slowness()
        for work in all_of_them(GREAT, START):
            self.assertLess(seconds(work), limit)

    def test_great_links_at_any_number(self):
        draw = random.Random(91)
        links = some_sound_links(draw)
        rows = [next(links) for _ in range(TIMES // 4)]
        numbers = [(link, many, skewed(draw, of_harms(link)[many])) for link in rows for many in range(4)]
        limit = 0.2 * slowness()
        self.assertLess(seconds(lambda: [of_harm_numbered(*row) for row in numbers]), limit)
        numbers = [(link, skewed(draw, how_many_contents(link))) for link in rows for _ in range(4)]
        self.assertLess(seconds(lambda: [contents_numbered(*row) for row in numbers]), limit)

    def test_few_looks_at_any_number(self):
        """No more than a hundred and a half, where halving alone takes six hundred of them."""
        draw = random.Random(94)
        links, asked = some_sound_links(draw), []
        looked = halving.looked

        def counted(*args):
            asked.append(args)
            return looked(*args)

        halving.looked = counted
        try:
            for _ in range(150):
                link = next(links)
                rows = [(many, skewed(draw, total)) for many, total in enumerate(of_harms(link)) for _ in range(3)]
                for many, number in rows:
                    asked.clear()
                    of_harm_numbered(link, many, number)
                    self.assertLess(len(asked), 150)
                asked.clear()
                contents_numbered(link, skewed(draw, how_many_contents(link)))
                self.assertLess(len(asked), 150)
        finally:
            halving.looked = looked

    def test_small_links(self):
        limit = 0.02 * slowness()
        for work in all_of_them(SMALL, FIRST):
            self.assertLess(seconds(work), limit)


class Same(unittest.TestCase):
    """Numbers and next ones tell the same."""

    def test_the_next_ones_are_those_with_the_next_numbers(self):
        draw = random.Random(92)
        links = some_sound_links(draw)
        for link, start in [(GREAT, START), (SMALL, FIRST)] + [
                (link, some_contents_of(link, draw)) for link in (next(links) for _ in range(5))]:
            told = [work() for work in all_of_them(link, start)]
            self.assertEqual(told[0], told[2])
            self.assertEqual(told[1], told[3])

    def test_back_and_forth_at_any_number(self):
        draw = random.Random(93)
        links = some_sound_links(draw)
        for _ in range(150):
            link = next(links)
            number = skewed(draw, how_many_contents(link))
            contents = contents_numbered(link, number)
            self.assertEqual(number_of_contents(link, contents), number)
            self.assertEqual(next_contents(link, contents), contents_numbered(link, number + 1))
            for many, total in enumerate(of_harms(link)):
                number = skewed(draw, total)
                contents = of_harm_numbered(link, many, number)
                self.assertEqual((harm(link, contents), number_of_its_harm(link, contents)), (many, number))
                later = next_of_harm(link, contents)
                self.assertEqual(later, of_harm_numbered(link, many, number + 1))
                self.assertTrue(later is None or in_order(contents) < in_order(later))

    def test_the_next_of_a_harm_leaps_over_all_others(self):
        """Between neighbours of a harm none of the contents has it, however many they are."""
        link = (2, 2, 10 ** 29, 10 ** 29)
        self.assertEqual(
            next_of_harm(link, ((0, 10 ** 29 - 1), (1, ("old", 10 ** 29 - 1), False), (2, 0, 0), (2, 0))),
            ((1, 0), (0, ("old", 10 ** 29 - 2), False), (0, 0, 2), (0, 0)))
        self.assertEqual(
            of_harm_numbered(link, 3, 0),
            ((0, 10 ** 29 - 2), (0, ("old", 10 ** 29 - 2), False), (0, 0, 2), (2, 0)))


if __name__ == "__main__":
    unittest.main()
