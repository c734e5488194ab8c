import itertools
import random
import unittest

from healwires.counting import how_many_contents
from healwires.errors import InvalidContents, InvalidLink, InvalidNumber, InvalidView, TooMany
from healwires.views import covered, how_many_look_so, is_view, looking_so, looks_so, view_of
from model import (
    BAD_CONTENTS, BAD_LINKS, BAD_VIEWS, ODD_VALUES, all_contents, all_views, check_errors, check_unchanged,
    drawn_contents, in_order, look_alike, seen, some_contents_of,
)

LINK = (3, 2, 4, 4)
MIXED = ((0, 2), (1, ("old", 3), True), (1, 0, 2), (0, 1))
BIG = 10 ** 29
NOTHING = (None, None, None, None)
# Sound ones and others.
SMALL = [(1, 1, 1, 1), (1, 1, 2, 2), (2, 1, 2, 1), (2, 1, 1, 1), (1, 2, 1, 1)]
PLACES = [list(row) for many in range(5) for row in itertools.combinations(range(4), many)]
BAD_PLACES = [value for value in ODD_VALUES if value != []] + [
    [4], [-1], [0, 0], [1, 0], [0, 2, 1], [0, 1, 2, 3, 4], [True], [0, True], [False], ["0"], [None], (0, 1), [[0]],
    [0, 3, 3], {0: 1},
]


class Views(unittest.TestCase):
    """Point 43."""

    def test_the_examples_of_the_document(self):
        two, some = (2, 2, 2, 2), ((0, 1), (1, ("old", 1), False), (1, 0, 0), (1, 0))
        self.assertEqual(
            [view_of(two, some), covered(two, view_of(two, some), [1, 2]),
             looks_so(two, some, (None, (1, 1), None, (1, 0)))],
            [((0, 1), (1, 1), (1, 0), (1, 0)), ((0, 1), None, None, (1, 0)), True])
        self.assertEqual(
            [is_view(two, NOTHING), is_view(two, ((0, 2), None, None, None)),
             is_view(two, (None, (1, 1), (3, 0), None))],
            [True, False, False])
        self.assertEqual(
            [how_many_look_so((1, 1, 1, 1), NOTHING), how_many_look_so(two, view_of(two, some)),
             len(looking_so(two, view_of(two, some)))],
            [96, 8, 8])

    def test_what_is_a_view(self):
        for link in SMALL + [(2, 2, 2, 2), LINK]:
            for view in all_views(link):
                self.assertIs(is_view(link, view), True)
        for value in BAD_VIEWS:
            self.assertIs(is_view(LINK, value), False, value)
        for view in (
            ((0, BIG - 1), None, None, None), (None, (1, BIG - 1), None, None), (None, None, (BIG - 1, 1), None),
            (None, None, None, (0, BIG)),
        ):
            self.assertIs(is_view((BIG,) * 4, view), True)
            for less in range(4):
                link = (BIG,) * less + (BIG - 1,) + (BIG,) * (3 - less)
                place = [part is not None for part in view].index(True)
                self.assertIs(is_view(link, view), less != (3, 2, 0, 1)[place])

    def test_views_of_contents(self):
        for link in SMALL + [(2, 2, 2, 2), (3, 2, 3, 2)]:
            for contents in drawn_contents(link):
                self.assertEqual(view_of(link, contents), seen(contents))
                self.assertTrue(is_view(link, seen(contents)))
        contents = ((1, 5), (0, ("new", BIG - 1), True), (3, 4, BIG - 7), (0, BIG))
        self.assertEqual(view_of((BIG,) * 4, contents), ((1, 5), (0, BIG - 1), (4, BIG - 4), (0, BIG)))

    def test_places_that_are_covered(self):
        for view in all_views((1, 1, 2, 2)):
            for places in PLACES:
                told = covered((1, 1, 2, 2), view, places)
                self.assertIsInstance(told, tuple)
                self.assertEqual(told, tuple(None if place in places else view[place] for place in range(4)))
                self.assertTrue(is_view((1, 1, 2, 2), told))


class Looks(unittest.TestCase):
    """Point 44."""

    def test_all_contents_of_small_links(self):
        for link in SMALL:
            everything = sorted(all_contents(link), key=in_order)
            for view in all_views(link):
                found = [contents for contents in everything if look_alike(view, contents)]
                self.assertEqual(how_many_look_so(link, view), len(found), (link, view))
                self.assertEqual(looking_so(link, view), found, (link, view))

    def test_larger_links(self):
        draw, many = random.Random(91), 0
        for link in [(2, 2, 2, 2), (3, 1, 3, 2), (2, 3, 2, 2), (1, 3, 4, 2)]:
            everything = sorted(all_contents(link), key=in_order)
            for view in draw.sample(all_views(link), 120):
                found = [contents for contents in everything if look_alike(view, contents)]
                self.assertEqual(how_many_look_so(link, view), len(found), (link, view))
                if len(found) <= 2000:
                    self.assertEqual(looking_so(link, view), found, (link, view))
                    many += len(found) > 100
        self.assertGreater(many, 10)

    def test_whether_they_look_so(self):
        draw = random.Random(92)
        for link in SMALL + [(2, 2, 2, 2), (3, 2, 4, 4)]:
            views = all_views(link)
            for contents in drawn_contents(link, 100):
                for view in draw.sample(views, 40):
                    self.assertIs(looks_so(link, contents, view), look_alike(view, contents))
                for places in PLACES:
                    self.assertIs(looks_so(link, contents, covered(link, seen(contents), places)), True)

    def test_nothing_seen(self):
        draw = random.Random(93)
        for _ in range(200):
            link = tuple(draw.choice([1, 2, BIG, draw.randint(1, BIG)]) for _ in range(4))
            self.assertEqual(how_many_look_so(link, NOTHING), how_many_contents(link))
            self.assertIs(looks_so(link, some_contents_of(link, draw), NOTHING), True)

    def test_just_two_thousand_and_more(self):
        link = (BIG, BIG, BIG, BIG)
        for many, back in ((999, (3, 4)), (0, (0, BIG))):
            view = ((0, 5), (0, 0), (many, BIG - many), back)
            found = looking_so(link, view)
            self.assertEqual((len(found), how_many_look_so(link, view)), (2 * (many + 1),) * 2)
            self.assertTrue(all(look_alike(view, contents) for contents in found))
            self.assertEqual(sorted(set(found), key=in_order), found)
        for view, many in (
            (((0, 5), (0, 0), (1000, BIG - 1000), (3, 4)), 2002), (((0, 5), (0, 1), (1000, 7), (3, 4)), 2002),
            (((1, 5), (0, 1), (1000, 500), (3, 4)), 2004), (((1, 5), (1, 0), (0, BIG - 1), (3, 4)), 2 * BIG),
            ((None, (1, 0), (0, 0), (0, 0)), 4 * BIG), (((1, 5), (1, 0), (0, 0), None), (BIG + 2) * (BIG + 1)),
        ):
            self.assertEqual(how_many_look_so(link, view), many)
            with self.assertRaises(TooMany) as caught:
                looking_so(link, view)
            self.assertEqual(caught.exception.value, many)
        self.assertEqual(len(looking_so(link, ((1, 5), (0, 1), (1000, 499), (3, 4)))), 2000)

    def test_each_place_unseen_alone_at_great_numbers(self):
        link = (BIG, BIG - 1, BIG + 5, BIG + 7)
        c, d, p, q = link
        view = ((0, 5), (1, 9), (BIG - 8, 8), (3, BIG - 4))
        # Two kinds of lots, done or not; as many new ones as there are copies of the sender's bit, or less.
        self.assertEqual(how_many_look_so(link, view), 2 * 2 * (BIG - 7))
        self.assertEqual(how_many_look_so(link, (None,) + view[1:]), q * 2 * (2 * (BIG - 7) + 9))
        self.assertEqual(
            how_many_look_so(link, (view[0], None) + view[2:]), 2 * (BIG - 7) * (1 + p - 1 + 1 + 2 * (p - 1)))
        self.assertEqual(
            how_many_look_so(link, view[:2] + (None, view[3])), 2 * 2 * (c + 3) * (c + 2) * (c + 1) // 6)
        self.assertEqual(how_many_look_so(link, view[:3] + (None,)), 2 * 2 * (BIG - 7) * (d + 2) * (d + 1) // 2)


class Refused(unittest.TestCase):
    """Points 2, 5, 43 and 44."""

    def test_errors(self):
        links, contents, views = (InvalidLink, BAD_LINKS), (InvalidContents, BAD_CONTENTS), (InvalidView, BAD_VIEWS)
        view = ((0, 2), None, (1, 2), (0, 1))
        check_errors(self, is_view, ["link", "value"], [LINK, None], [links, None])
        check_errors(self, view_of, ["link", "contents"], [LINK, MIXED], [links, contents])
        check_errors(
            self, covered, ["link", "view", "places"], [LINK, view, [0, 1, 3]],
            [links, views, (InvalidNumber, BAD_PLACES)])
        check_errors(self, looks_so, ["link", "contents", "view"], [LINK, MIXED, view], [links, contents, views])
        for function in (looking_so, how_many_look_so):
            check_errors(self, function, ["link", "view"], [LINK, view], [links, views])

    def test_new_lists(self):
        view = ((0, 2), None, (1, 2), (0, 1))
        check_unchanged(self, looking_so, LINK, view)
        check_unchanged(self, covered, LINK, view, [0, 1, 3])
        check_unchanged(self, view_of, LINK, MIXED)
        check_unchanged(self, looks_so, LINK, MIXED, view)


if __name__ == "__main__":
    unittest.main()
