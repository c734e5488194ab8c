import itertools
import random
import unittest

from healwires.contents import is_contents
from healwires.counting import how_many_such
from healwires.errors import InvalidContents, InvalidLink, InvalidView, Unlike
from healwires.harm import harm
from healwires.shares import of_harms
from healwires.unseen import best_look, greatest_harm, least_harm, seen_harms, worst_look, worth_looking
from healwires.views import how_many_look_so, looking_so
from model import (
    BAD_CONTENTS, BAD_LINKS, BAD_VIEWS, all_views, check_errors, check_unchanged, expect, harms, look_alike, seen,
    some_contents_of, some_sound_links,
)

LINK = (3, 2, 4, 4)
MIXED = ((0, 2), (1, ("old", 3), True), (1, 0, 2), (0, 1))
BIG = 10 ** 29
NOTHING = (None, None, None, None)
SOUND = [(1, 1, 1, 1), (1, 1, 2, 2), (2, 1, 2, 1), (1, 2, 1, 2), (1, 1, 2, 1), (2, 2, 2, 2), (3, 1, 3, 1), (1, 3, 1, 3)]
UNSOUND = [(2, 1, 1, 1), (1, 2, 1, 1), (3, 2, 2, 2), (BIG, 1, BIG - 1, 1), (1, BIG, 1, BIG - 1)]
START = ((0, 0), (1, None, False), (0, 0, 0), (0, 0))


def some_view(link, contents, draw):
    """What some contents look like, with some places covered."""
    return tuple(None if draw.random() < 0.4 else part for part in seen(contents))


def least_by_words(link, view):
    """The least harm as point 46 tells it, for a small link."""
    c, d, p, q = link
    senders = [view[0]] if view[0] else list(itertools.product((0, 1), range(q)))
    receivers = [view[1]] if view[1] else list(itertools.product((0, 1), range(p)))
    theres = [view[2]] if view[2] else [(x, y) for x in range(c + 1) for y in range(c + 1 - x)]
    backs = [view[3]] if view[3] else [(x, y) for x in range(d + 1) for y in range(d + 1 - x)]
    for (bit, heard), (other, many) in itertools.product(senders, receivers):
        if bit != other and any(heard + back[bit] < q for back in backs):
            return 0
        if bit == other and any(there[1 - other] + many < p for there in theres):
            return 0
    if None in view or view[0][0] != view[1][0]:
        return 1
    (bit, heard), (other, many), there, back = view
    return 2 if heard + back[bit] >= q and there[1 - other] + many >= p else 1


class Small(unittest.TestCase):
    """Points 45 to 48, held against going through all contents of small links."""

    def views(self, link, draw):
        views = all_views(link)
        return views if len(views) < 700 else draw.sample(views, 250)

    def test_all_views(self):
        draw, rows = random.Random(94), set()
        for link in SOUND:
            told = harms(link)
            for view in self.views(link, draw):
                found = [contents for contents in told if look_alike(view, contents)]
                counts = [0, 0, 0, 0]
                for contents in found:
                    counts[told[contents]] += 1
                few, most = min(told[contents] for contents in found), max(told[contents] for contents in found)
                self.assertEqual(seen_harms(link, view), counts, (link, view))
                self.assertEqual((least_harm(link, view), greatest_harm(link, view)), (few, most), (link, view))
                self.assertEqual(least_by_words(link, view), few, (link, view))
                self.assertGreaterEqual(most, 1)
                worst, best = worst_look(link, view), best_look(link, view)
                self.assertTrue(is_contents(link, worst) and is_contents(link, best))
                self.assertTrue(look_alike(view, worst) and look_alike(view, best))
                self.assertEqual((told[worst], told[best]), (most, few))
                rows.add((few, most))
        self.assertLessEqual({(0, 1), (0, 2), (0, 3), (1, 2), (1, 3), (2, 3)}, rows)

    def test_one_look_more(self):
        draw, found = random.Random(95), set()
        for link in SOUND:
            told, greatest = harms(link), {}

            def most_of(view):
                if view not in greatest:
                    greatest[view] = max(told[contents] for contents in told if look_alike(view, contents))
                return greatest[view]

            everything = sorted(told, key=repr)
            for _ in range(150):
                contents = draw.choice(everything)
                view = some_view(link, contents, draw)
                places = []
                for place in range(4):
                    if view[place] is None:
                        more = view[:place] + (seen(contents)[place],) + view[place + 1:]
                        self.assertLessEqual(most_of(more), most_of(view))
                        self.assertGreaterEqual(least_harm(link, more), least_harm(link, view))
                        if most_of(more) < most_of(view):
                            places.append(place)
                self.assertEqual(worth_looking(link, contents, view), places, (link, contents, view))
                found.add(tuple(places))
        self.assertTrue({(), (0,), (1,), (2,), (3,)} <= found, found)


class Great(unittest.TestCase):
    """Points 45 to 48, for links of 30 figures."""

    def test_the_examples_of_the_document(self):
        some = ((0, 1), (1, ("old", 1), False), (1, 0, 0), (1, 0))
        view = ((0, 1), (1, 1), (1, 0), (1, 0))
        self.assertEqual(
            [seen_harms((1, 1, 1, 1), NOTHING), seen_harms((2, 2, 2, 2), seen(some)),
             least_harm((2, 2, 2, 2), view), greatest_harm((2, 2, 2, 2), view),
             greatest_harm((10 ** 29, 5, 10 ** 29, 5), ((0, 0), (0, 0), None, None))],
            [[30, 46, 18, 2], [0, 4, 4, 0], 1, 2, 3])
        link, view = (1, 1, 1, 1), ((0, 0), (0, 0), (0, 1), (1, 0))
        self.assertEqual(best_look(link, view), ((0, 0), (0, None, True), (0, 0, 1), (1, 0)))
        self.assertEqual(worst_look(link, view), ((0, 0), (0, None, False), (0, 0, 1), (1, 0)))
        self.assertEqual(
            worth_looking(link, ((0, 0), (0, None, True), (0, 0, 0), (0, 0)), ((0, 0), (0, 0), None, None)), [2, 3])

    def test_nothing_seen(self):
        draw = random.Random(96)
        links = some_sound_links(draw)
        for link in [(BIG,) * 4] + [next(links) for _ in range(100)]:
            counts = [0, 0, 0, 0]
            for even, done, a, o in itertools.product((False, True), repeat=4):
                if even and done:
                    many = 2 if o else 0
                elif even:
                    many = 3 if a and o else 1
                else:
                    many = 1 if done else 2 if a or o else 0
                counts[many] += how_many_such(link, even, done, a, o)
            self.assertEqual(seen_harms(link, NOTHING), counts)
            self.assertEqual(of_harms(link), counts)
            self.assertEqual((least_harm(link, NOTHING), greatest_harm(link, NOTHING)), (0, 3))

    def test_few_that_look_so(self):
        """What can be listed is counted by going through it, at great numbers of what is seen."""
        draw, listed = random.Random(97), 0
        links = some_sound_links(draw)
        for _ in range(1500):
            link = next(links)
            contents = some_contents_of(link, draw)
            view = some_view(link, contents, draw)
            self.assertEqual(sum(seen_harms(link, view)), how_many_look_so(link, view))
            for told, many in ((worst_look(link, view), greatest_harm(link, view)),
                               (best_look(link, view), least_harm(link, view))):
                self.assertTrue(is_contents(link, told) and look_alike(view, told))
                self.assertEqual(harm(link, told), many)
            self.assertTrue(least_harm(link, view) <= harm(link, contents) <= greatest_harm(link, view))
            counts = seen_harms(link, view)
            self.assertEqual([many for many in range(4) if counts[many]][0], least_harm(link, view))
            self.assertEqual([many for many in range(4) if counts[many]][-1], greatest_harm(link, view))
            if how_many_look_so(link, view) <= 400:
                found = [harm(link, one) for one in looking_so(link, view)]
                self.assertEqual(counts, [found.count(many) for many in range(4)])
                listed += 1
            for place in worth_looking(link, contents, view):
                more = view[:place] + (seen(contents)[place],) + view[place + 1:]
                self.assertLess(greatest_harm(link, more), greatest_harm(link, view))
        self.assertGreater(listed, 100)

    def test_medium_links(self):
        draw = random.Random(98)
        for link in ((5, 4, 7, 6), (4, 5, 4, 5), (6, 2, 6, 3), (2, 7, 3, 7)):
            for _ in range(150):
                contents = some_contents_of(link, draw)
                view = some_view(link, contents, draw)
                if how_many_look_so(link, view) <= 2000:
                    found = [harm(link, one) for one in looking_so(link, view)]
                    self.assertEqual(seen_harms(link, view), [found.count(many) for many in range(4)])
                    self.assertEqual((least_harm(link, view), greatest_harm(link, view)), (min(found), max(found)))

    def test_at_the_bounds(self):
        link = (BIG, BIG, BIG, BIG)
        # Both sums just enough, one of them one less, both.
        for many, answered, told in (
            (BIG - 4, BIG - 3, (2, 3)), (BIG - 5, BIG - 3, (0, 1)), (BIG - 4, BIG - 4, (1, 2)),
            (BIG - 5, BIG - 4, (0, 1)),
        ):
            view = ((0, 3), (0, 4), (3, many), (answered, 1))
            self.assertEqual((least_harm(link, view), greatest_harm(link, view)), told)
        for many, answered, told in (
            (BIG - 4, BIG - 3, (1, 2)), (BIG - 5, BIG - 3, (1, 2)), (BIG - 4, BIG - 4, (0, 2)),
            (BIG - 5, BIG - 4, (0, 1)),
        ):
            view = ((0, 3), (1, 4), (many, 3), (answered, 1))
            self.assertEqual((least_harm(link, view), greatest_harm(link, view)), told)


class Refused(unittest.TestCase):
    """Points 2, 5, 45 to 48."""

    def test_errors(self):
        links, contents, views = (InvalidLink, BAD_LINKS), (InvalidContents, BAD_CONTENTS), (InvalidView, BAD_VIEWS)
        view = ((0, 2), None, (1, 2), (0, 1))
        for function in (seen_harms, least_harm, greatest_harm, worst_look, best_look):
            check_errors(self, function, ["link", "view"], [LINK, view], [links, views])
        check_errors(self, worth_looking, ["link", "contents", "view"], [LINK, MIXED, view], [links, contents, views])

    def test_contents_that_do_not_look_so(self):
        names = ["link", "contents", "view"]
        for view in (
            ((0, 1), None, None, None), ((1, 2), None, None, None), (None, (1, 2), None, None),
            (None, (0, 3), None, None), (None, None, (0, 2), None), (None, None, (0, 3), None),
            (None, None, None, (0, 0)), ((0, 2), (1, 3), (1, 2), (1, 0)),
        ):
            expect(self, worth_looking, names, [LINK, MIXED, view], InvalidContents, MIXED)
        # What is no view is told ahead of contents that do not look so.
        view = ((0, 1), (True, 3), None, None)
        expect(self, worth_looking, names, [LINK, MIXED, view], InvalidView, view)

    def test_a_sound_link_is_wanted_behind_all_other_errors(self):
        for link in UNSOUND:
            for function in (seen_harms, least_harm, greatest_harm, worst_look, best_look):
                expect(self, function, ["link", "view"], [link, NOTHING], Unlike, link)
                expect(self, function, ["link", "view"], [link, None], InvalidView, None)
            names = ["link", "contents", "view"]
            expect(self, worth_looking, names, [link, START, NOTHING], Unlike, link)
            expect(self, worth_looking, names, [link, START, None], InvalidView, None)
            expect(self, worth_looking, names, [link, START, ((1, 0), None, None, None)], InvalidContents, START)

    def test_new_lists(self):
        view = ((0, 2), None, (1, 2), (0, 1))
        for function in (seen_harms, least_harm, greatest_harm, worst_look, best_look):
            check_unchanged(self, function, LINK, view)
        check_unchanged(self, worth_looking, LINK, MIXED, view)


if __name__ == "__main__":
    unittest.main()
