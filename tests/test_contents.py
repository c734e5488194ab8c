import unittest

from healwires.contents import (
    answers, empty, far_of, is_contents, is_even, is_event, is_far_run, is_link, is_run, is_sound, mirrored,
    mirrored_event, old_copies, spread_out,
)
from healwires.errors import InvalidBit, InvalidContents, InvalidEvent, InvalidLink, InvalidRun, TooMany
from model import (
    BAD_BITS, BAD_CONTENTS, BAD_EVENTS, BAD_FARS, BAD_LINKS, BAD_RUNS, all_contents, all_events, check_errors,
    check_unchanged, expect,
)

LINK = (3, 2, 4, 4)
MIXED = ((0, 2), (1, ("old", 3), True), (1, 0, 2), (0, 1))
BIG = 10 ** 29
SMALL_LINKS = [(1, 1, 1, 1), (1, 2, 2, 1), (2, 1, 1, 2), (2, 1, 3, 2)]


class Kinds(unittest.TestCase):
    """Points 2, 3, 4 and 6: what is a link, contents, an event, a run, a far run."""

    def test_links(self):
        for link in (LINK, (1, 1, 1, 1), (BIG, 10 ** 30 - 1, BIG, 1), (10 ** 40, 1, 1, 1)):
            self.assertIs(is_link(link), True)
        for value in BAD_LINKS:
            self.assertIs(is_link(value), False, value)

    def test_sound_links(self):
        for link, sound in (
            (LINK, True), ((3, 2, 2, 2), False), ((3, 2, 3, 2), True), ((3, 2, 3, 1), False), ((1, 1, 1, 1), True),
            ((BIG, BIG, BIG, BIG), True), ((BIG, BIG, BIG - 1, BIG), False), ((BIG, BIG, BIG, BIG - 1), False),
        ):
            self.assertIs(is_sound(link), sound, link)

    def test_contents(self):
        for value in BAD_CONTENTS:
            self.assertIs(is_contents(LINK, value), False, value)
        for contents in (
            MIXED, ((0, 3), (1, ("new", 3), False), (3, 0, 0), (2, 0)), ((1, 0), (1, None, True), (0, 0, 0), (0, 0)),
            ((1, 0), (1, ("old", 1), True), (0, 3, 0), (1, 1)),
        ):
            self.assertIs(is_contents(LINK, contents), True, contents)

    def test_contents_at_the_bounds_of_great_links(self):
        link = (BIG, BIG, BIG, BIG)
        self.assertTrue(is_contents(link, ((0, BIG - 1), (1, ("new", BIG - 1), False), (1, BIG - 2, 1), (BIG, 0))))
        self.assertFalse(is_contents(link, ((0, BIG), (1, None, False), (0, 0, 0), (0, 0))))
        self.assertFalse(is_contents(link, ((0, 0), (1, ("new", BIG), False), (0, 0, 0), (0, 0))))
        self.assertFalse(is_contents(link, ((0, 0), (1, None, False), (1, BIG - 1, 1), (0, 0))))
        self.assertFalse(is_contents(link, ((0, 0), (1, None, False), (0, 0, 0), (BIG, 1))))

    def test_no_lot_where_one_copy_is_enough(self):
        for sort in ("new", "old"):
            self.assertFalse(is_contents((1, 1, 1, 1), ((0, 0), (1, (sort, 1), False), (0, 0, 0), (0, 0))))
            self.assertTrue(is_contents((1, 1, 2, 1), ((0, 0), (1, (sort, 1), False), (0, 0, 0), (0, 0))))

    def test_all_contents_of_small_links(self):
        for link in SMALL_LINKS:
            found = all_contents(link)
            self.assertTrue(all(is_contents(link, contents) for contents in found))
            larger = tuple(number + 1 for number in link)
            among = set(found)
            for contents in all_contents(larger):
                self.assertIs(is_contents(link, contents), contents in among, (link, contents))

    def test_events(self):
        for event in all_events():
            self.assertIs(is_event(event), True, event)
        for value in BAD_EVENTS + [("double", "new"), ("repeat", 0)]:
            self.assertIs(is_event(value), False, value)

    def test_runs(self):
        for run in ([], [("send",)], all_events(), [("send",), ("bring", "one")], [("send",)] * 400):
            self.assertIs(is_run(run), True)
        for value in BAD_RUNS:
            self.assertIs(is_run(value), False, value)

    def test_far_runs(self):
        for far in (
            [], [([("send",), ("hear", 1)], 10 ** 20)], [([("send",)], 0)], [(all_events(), 10 ** 30 - 1)],
            [([("send",)], 1)] * 41, [([("send",)] * 9, 1)],
        ):
            self.assertIs(is_far_run(far), True)
        for value in BAD_FARS:
            self.assertIs(is_far_run(value), False, value)

    def test_the_link_is_checked_first(self):
        for function in (is_contents, is_sound, empty, is_even, old_copies, answers, mirrored):
            size = function.__code__.co_argcount
            with self.assertRaises(InvalidLink) as caught:
                function(*[None] * size)
            self.assertIsNone(caught.exception.value)


class Told(unittest.TestCase):
    """Point 6: what is told of contents and events."""

    def test_empty(self):
        self.assertEqual(empty(LINK, 0), ((0, 0), (1, None, False), (0, 0, 0), (0, 0)))
        self.assertEqual(empty((1, 1, 1, 1), 1), ((1, 0), (0, None, False), (0, 0, 0), (0, 0)))
        for link in SMALL_LINKS + [LINK]:
            for bit in (0, 1):
                self.assertTrue(is_contents(link, empty(link, bit)))

    def test_even(self):
        self.assertIs(is_even(LINK, MIXED), False)
        self.assertIs(is_even(LINK, ((1, 0), (1, None, False), (0, 0, 0), (0, 0))), True)
        self.assertIs(is_even(LINK, ((0, 0), (0, None, False), (0, 0, 0), (0, 0))), True)

    def test_copies_and_answers(self):
        contents = ((0, 0), (1, None, False), (BIG, 5, 7), (BIG - 1, 1))
        link = (10 ** 30, BIG, 1, 1)
        self.assertEqual([old_copies(link, contents, 0), old_copies(link, contents, 1)], [5, 7])
        self.assertEqual([answers(link, contents, 0), answers(link, contents, 1)], [BIG - 1, 1])

    def test_mirrored(self):
        self.assertEqual(mirrored(LINK, MIXED), ((1, 2), (0, ("old", 3), True), (1, 2, 0), (1, 0)))
        for link in SMALL_LINKS:
            for contents in all_contents(link):
                other = mirrored(link, contents)
                self.assertTrue(is_contents(link, other))
                self.assertEqual(mirrored(link, other), contents)
                self.assertEqual(is_even(link, other), is_even(link, contents))
                for bit in (0, 1):
                    self.assertEqual(old_copies(link, other, bit), old_copies(link, contents, 1 - bit))
                    self.assertEqual(answers(link, other, bit), answers(link, contents, 1 - bit))

    def test_mirrored_events(self):
        pairs = [
            (("send",), ("send",)), (("drop", "new"), ("drop", "new")), (("bring", "new"), ("bring", "new")),
            (("drop", "zero"), ("drop", "one")), (("bring", "zero"), ("bring", "one")),
            (("miss", 0), ("miss", 1)), (("hear", 0), ("hear", 1)),
        ]
        for one, other in pairs:
            self.assertEqual(mirrored_event(one), other)
            self.assertEqual(mirrored_event(other), one)

    def test_the_examples_of_the_document(self):
        self.assertEqual(
            [is_link(LINK), is_link((0, 1, 1, 1)), is_sound(LINK), is_sound((3, 2, 2, 2)), is_contents(LINK, MIXED),
             is_contents(LINK, ((0, 4), (1, None, True), (1, 0, 2), (0, 1)))],
            [True, False, True, False, True, False])
        self.assertEqual(
            [is_contents(LINK, ((0, 2), (1, ("old", 4), True), (0, 0, 0), (0, 0))),
             is_contents(LINK, ((0, 2), (0, ("new", 1), True), (0, 0, 0), (0, 0))),
             is_contents(LINK, ((0, 0), (1, None, False), (2, 1, 1), (0, 0)))],
            [False, False, False])
        self.assertEqual(
            [empty(LINK, 1), is_even(LINK, MIXED), old_copies(LINK, MIXED, 1), old_copies(LINK, MIXED, 0),
             answers(LINK, MIXED, 1)],
            [((1, 0), (0, None, False), (0, 0, 0), (0, 0)), False, 2, 0, 1])
        self.assertEqual(
            [mirrored(LINK, MIXED), mirrored_event(("bring", "one")), mirrored_event(("hear", 0)),
             mirrored_event(("drop", "new"))],
            [((1, 2), (0, ("old", 3), True), (1, 2, 0), (1, 0)), ("bring", "zero"), ("hear", 1), ("drop", "new")])
        self.assertEqual(
            [is_event(("send",)), is_event(("hear", 2)), is_event(("drop", "old")),
             is_run([("send",), ("bring", "one")]), is_far_run([([("send",), ("hear", 1)], 10 ** 20)]),
             is_far_run([(("send",), 2)])],
            [True, False, False, True, True, False])
        self.assertEqual(
            [far_of([("send",), ("send",), ("hear", 0)]), far_of([]),
             spread_out([([("send",), ("hear", 0)], 2), ([("send",)], 0), ([("send",)], 1)])],
            [[([("send",)], 2), ([("hear", 0)], 1)], [],
             [("send",), ("hear", 0), ("send",), ("hear", 0), ("send",)]])


class FarAndSpread(unittest.TestCase):
    """Point 6: far runs of runs, and back."""

    def test_far_of(self):
        run = [("send",)] * 3 + [("hear", 0), ("hear", 1), ("hear", 1), ("send",)]
        self.assertEqual(
            far_of(run), [([("send",)], 3), ([("hear", 0)], 1), ([("hear", 1)], 2), ([("send",)], 1)])
        self.assertEqual(spread_out(far_of(run)), run)
        self.assertEqual(far_of([("send",)] * 400), [([("send",)], 400)])

    def test_spread_out(self):
        self.assertEqual(spread_out([]), [])
        self.assertEqual(spread_out([([("send",)], 0)]), [])
        self.assertEqual(spread_out([(all_events(), 2)]), all_events() * 2)
        self.assertEqual(spread_out([([("send",)], 1)] * 41), [("send",)] * 41)

    def test_more_than_300_events_are_too_many(self):
        self.assertEqual(len(spread_out([([("send",)], 300)])), 300)
        self.assertEqual(len(spread_out([([("send",)] * 100, 2), ([("hear", 0)], 100)])), 300)
        for far, many in (
            ([([("send",)], 301)], 301), ([([("send",)] * 3, 101)], 303),
            ([([("send",)], 300), ([("hear", 0)], 1)], 301),
            ([([("send",), ("send",)], 10 ** 30 - 1)], 2 * 10 ** 30 - 2),
        ):
            with self.assertRaises(TooMany) as caught:
                spread_out(far)
            self.assertEqual(caught.exception.value, many)

    def test_new_lists(self):
        check_unchanged(self, far_of, [("send",), ("send",), ("hear", 0)])
        check_unchanged(self, spread_out, [([("send",), ("hear", 0)], 2)])
        shared = [("send",)]
        far = [(shared, 1), (shared, 2)]
        self.assertEqual(check_unchanged(self, spread_out, far), [("send",)] * 3)
        result = far_of(shared)
        shared.append(("hear", 0))
        self.assertEqual(result, [([("send",)], 1)])


class Refused(unittest.TestCase):
    """Points 2 and 5: each argument wrong in its turn, two at once."""

    def test_errors(self):
        links, contents = (InvalidLink, BAD_LINKS), (InvalidContents, BAD_CONTENTS)
        bits = (InvalidBit, BAD_BITS)
        check_errors(self, is_contents, ["link", "value"], [LINK, MIXED], [links, None])
        check_errors(self, is_sound, ["link"], [LINK], [links])
        check_errors(self, empty, ["link", "bit"], [LINK, 0], [links, bits])
        check_errors(self, is_even, ["link", "contents"], [LINK, MIXED], [links, contents])
        check_errors(self, mirrored, ["link", "contents"], [LINK, MIXED], [links, contents])
        for function in (old_copies, answers):
            check_errors(self, function, ["link", "contents", "bit"], [LINK, MIXED, 1], [links, contents, bits])
        check_errors(self, mirrored_event, ["event"], [("send",)], [(InvalidEvent, BAD_EVENTS + [("double", "new")])])
        check_errors(self, far_of, ["run"], [[("send",)]], [(InvalidRun, BAD_RUNS)])
        check_errors(self, spread_out, ["run"], [[([("send",)], 1)]], [(InvalidRun, BAD_FARS)])

    def test_names_of_what_tells_kinds(self):
        for function in (is_link, is_event, is_run, is_far_run):
            self.assertIs(function(value=None), False)

    def test_the_kind_is_checked_ahead_of_the_number(self):
        far = [([("send",)], 301), ([("hear", 2)], 1)]
        expect(self, spread_out, ["run"], [far], InvalidRun, far)


if __name__ == "__main__":
    unittest.main()
