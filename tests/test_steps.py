import unittest

from healwires.contents import empty, is_contents, mirrored, mirrored_event
from healwires.errors import InvalidContents, InvalidEvent, InvalidLink
from healwires.steps import behind, ends_turn, hands_out, is_possible, leading_to, possible_events, wrong_step
from model import (
    BAD_CONTENTS, BAD_EVENTS, BAD_LINKS, all_contents, all_events, check_errors, check_unchanged, expect, step,
)

LINK = (3, 2, 4, 4)
MIXED = ((0, 2), (1, ("old", 3), True), (1, 0, 2), (0, 1))
SMALL_LINKS = [
    (1, 1, 1, 1), (1, 2, 2, 1), (2, 1, 1, 2), (2, 2, 2, 2), (2, 1, 3, 2), (1, 1, 3, 3), (3, 1, 2, 1), (1, 3, 2, 2),
]
BIG = 10 ** 29


class Examples(unittest.TestCase):
    """The block behind point 13, as far as it needs contents and steps alone."""

    def test_the_examples_of_the_document(self):
        link = (2, 1, 2, 1)
        start = empty(link, 0)
        self.assertEqual(
            [possible_events(link, start), behind(link, start, ("send",)),
             leading_to(link, behind(link, start, ("send",)), start)],
            [[("send",)], ((0, 0), (1, None, False), (1, 0, 0), (0, 0)), [("drop", "new")]])
        bad = ((0, 0), (1, None, False), (0, 2, 0), (1, 0))
        self.assertEqual(
            [wrong_step(link, bad, ("hear", 0)), ends_turn(link, bad, ("hear", 0)),
             hands_out(link, bad, ("bring", "zero")), behind(link, bad, ("hear", 0)),
             is_possible(link, bad, ("send",))],
            ["lost", True, False, ((1, 0), (1, None, False), (0, 2, 0), (0, 0)), False])


class HeldAgainstTheModel(unittest.TestCase):
    """Points 8, 9 and 10, for all contents and events of small links."""

    def test_possible_events_and_what_they_do(self):
        for link in SMALL_LINKS:
            for contents in all_contents(link):
                told = {event: step(link, contents, event) for event in all_events()}
                possible = [event for event in all_events() if told[event] is not None]
                self.assertEqual(possible_events(link, contents), possible)
                for event in all_events():
                    self.assertIs(is_possible(link, contents, event), event in possible)
                for event in possible:
                    later, wrong, ended, handed = told[event]
                    self.assertTrue(is_contents(link, later))
                    self.assertEqual(behind(link, contents, event), later)
                    self.assertEqual(wrong_step(link, contents, event), wrong)
                    self.assertIs(ends_turn(link, contents, event), ended)
                    self.assertIs(hands_out(link, contents, event), handed)
                    self.assertFalse(ended and handed)

    def test_what_leads_back_and_forth(self):
        for link in SMALL_LINKS[:3]:
            everything = all_contents(link)
            for contents in everything:
                ways = {}
                for event in possible_events(link, contents):
                    ways.setdefault(behind(link, contents, event), []).append(event)
                for other in everything:
                    self.assertEqual(leading_to(link, contents, other), ways.get(other, []))

    def test_mirrored_events_do_mirrored_things(self):
        for link in SMALL_LINKS[:4]:
            for contents in all_contents(link):
                other = mirrored(link, contents)
                events = possible_events(link, contents)
                self.assertEqual(possible_events(link, other), sorted(mirrored_event(event) for event in events))
                for event in events:
                    turned = mirrored_event(event)
                    self.assertEqual(
                        behind(link, other, turned), mirrored(link, behind(link, contents, event)))
                    self.assertEqual(wrong_step(link, other, turned), wrong_step(link, contents, event))

    def test_what_becomes_more(self):
        for link in SMALL_LINKS[:5]:
            for contents in all_contents(link):
                if contents[2][0]:
                    self.assertLess(sum(contents[2][1:]), link[0])
                for event in possible_events(link, contents):
                    later = behind(link, contents, event)
                    for bit in (0, 1):
                        if later[2][1 + bit] > contents[2][1 + bit]:
                            self.assertTrue(ends_turn(link, contents, event))
                            self.assertEqual(contents[0][0], bit)
                        if later[3][bit] > contents[3][bit]:
                            self.assertEqual(event[0], "bring")
                            borne = {"new": contents[0][0], "zero": 0, "one": 1}[event[1]]
                            self.assertEqual(borne, bit)


class Edges(unittest.TestCase):
    """Points 8 and 9: full and empty wires, the last copy of a lot, the last answer of a turn."""

    def check(self, link, contents, event, later, wrong=None):
        self.assertTrue(is_possible(link, contents, event))
        self.assertEqual(behind(link, contents, event), later)
        self.assertEqual(wrong_step(link, contents, event), wrong)
        self.assertEqual(ends_turn(link, contents, event), contents[0][0] != later[0][0])
        self.assertEqual(hands_out(link, contents, event), contents[1][0] != later[1][0])

    def test_nothing_but_sending_from_empty_wires(self):
        for link in SMALL_LINKS:
            self.assertEqual(possible_events(link, empty(link, 0)), [("send",)])

    def test_a_full_wire_takes_no_copy(self):
        contents = ((0, 0), (1, None, False), (1, BIG - 2, 1), (1, 1))
        self.assertFalse(is_possible((BIG, 2, 1, 1), contents, ("send",)))
        self.assertTrue(is_possible((BIG + 1, 2, 1, 1), contents, ("send",)))
        self.assertEqual(
            possible_events((BIG, 2, 1, 1), contents),
            [("bring", "new"), ("bring", "one"), ("bring", "zero"), ("drop", "new"), ("drop", "one"),
             ("drop", "zero"), ("hear", 0), ("hear", 1), ("miss", 0), ("miss", 1)])

    def test_an_answer_is_lost_where_the_wire_back_is_full(self):
        link = (2, 2, 2, 2)
        self.check(
            link, ((0, 0), (0, None, True), (1, 1, 0), (1, 1)), ("bring", "new"),
            ((0, 0), (0, None, True), (0, 1, 0), (1, 1)))
        self.check(
            link, ((0, 0), (0, None, True), (1, 1, 0), (0, 1)), ("bring", "zero"),
            ((0, 0), (0, None, True), (1, 0, 0), (1, 1)))
        self.check(
            link, ((0, 0), (1, ("new", 1), False), (1, 0, 0), (0, 2)), ("bring", "new"),
            ((0, 0), (0, None, True), (0, 0, 0), (0, 2)))

    def test_lots(self):
        link = (3, 1, 3, 1)
        rest = ((1, 1, 1), (0, 0))
        for lot, event, later in (
            (None, ("bring", "new"), ("new", 1)), (("new", 1), ("bring", "new"), ("new", 2)),
            (("new", 2), ("bring", "zero"), ("old", 1)), (("old", 2), ("bring", "new"), ("new", 1)),
            (("old", 1), ("bring", "zero"), ("old", 2)), (None, ("bring", "zero"), ("old", 1)),
        ):
            there = (0, 1, 1) if event[1] == "new" else (1, 0, 1)
            self.check(
                link, ((0, 0), (1, lot, False)) + rest, event, ((0, 0), (1, later, False), there, (0, 0)))
        for lot in (None, ("new", 2), ("old", 2)):
            self.check(
                link, ((0, 0), (1, lot, False)) + rest, ("bring", "one"),
                ((0, 0), (1, None, False), (1, 1, 0), (0, 1)))

    def test_handed_out(self):
        link = (3, 1, 3, 1)
        for lot, done, event, wrong, later in (
            (("new", 2), False, ("bring", "new"), None, True), (("new", 2), True, ("bring", "new"), "twice", True),
            (("old", 2), False, ("bring", "zero"), "made", False), (("old", 2), True, ("bring", "zero"), "made", True),
        ):
            there = (0, 1, 1) if event[1] == "new" else (1, 0, 1)
            self.check(
                link, ((0, 0), (1, lot, done), (1, 1, 1), (0, 0)), event,
                ((0, 0), (0, None, later), there, (1, 0)), wrong)

    def test_one_copy_and_one_answer_are_enough(self):
        link = (1, 1, 1, 1)
        self.check(
            link, ((1, 0), (0, None, False), (1, 0, 0), (0, 0)), ("bring", "new"),
            ((1, 0), (1, None, True), (0, 0, 0), (0, 1)))
        self.check(
            link, ((1, 0), (0, None, False), (0, 0, 1), (0, 0)), ("bring", "one"),
            ((1, 0), (1, None, False), (0, 0, 0), (0, 1)), "made")
        self.check(
            link, ((1, 0), (1, None, True), (0, 0, 0), (0, 1)), ("hear", 1),
            ((0, 0), (1, None, False), (0, 0, 0), (0, 0)))

    def test_the_end_of_a_turn(self):
        link = (9, 3, 4, 2)
        self.check(
            link, ((0, 1), (1, ("new", 3), False), (2, 3, 4), (2, 1)), ("hear", 0),
            ((1, 0), (1, ("old", 3), False), (0, 5, 4), (1, 1)), "lost")
        self.check(
            link, ((1, 1), (0, ("new", 3), True), (2, 3, 4), (2, 1)), ("hear", 1),
            ((0, 0), (0, ("old", 3), False), (0, 3, 6), (2, 0)))
        self.check(
            link, ((0, 1), (0, ("old", 2), True), (0, 0, 0), (1, 0)), ("hear", 0),
            ((1, 0), (0, ("old", 2), False), (0, 0, 0), (0, 0)))
        self.check(
            link, ((0, 0), (0, ("old", 2), False), (1, 0, 0), (1, 0)), ("hear", 0),
            ((0, 1), (0, ("old", 2), False), (1, 0, 0), (0, 0)))
        self.check(
            link, ((0, 1), (0, None, False), (1, 0, 0), (1, 1)), ("hear", 1),
            ((0, 1), (0, None, False), (1, 0, 0), (1, 0)))

    def test_great_numbers(self):
        link = (BIG, BIG, BIG, BIG)
        self.check(
            link, ((1, BIG - 1), (0, ("new", BIG - 1), False), (BIG - 1, 1, 0), (0, BIG)), ("bring", "new"),
            ((1, BIG - 1), (1, None, True), (BIG - 2, 1, 0), (0, BIG)))
        self.check(
            link, ((1, BIG - 1), (0, ("new", BIG - 1), False), (BIG - 1, 0, 1), (0, BIG)), ("hear", 1),
            ((0, 0), (0, ("old", BIG - 1), False), (0, 0, BIG), (0, BIG - 1)), "lost")


class Refused(unittest.TestCase):
    """Points 2, 5, 9 and 10: errors and their order, arguments as they were, new lists."""

    def test_errors(self):
        links, contents = (InvalidLink, BAD_LINKS), (InvalidContents, BAD_CONTENTS)
        not_possible = [("bring", "zero"), ("hear", 0), ("send",)]
        events = (InvalidEvent, BAD_EVENTS + [("double", "new"), ("repeat", 1)] + not_possible)
        check_errors(self, possible_events, ["link", "contents"], [LINK, MIXED], [links, contents])
        check_errors(self, is_possible, ["link", "contents", "value"], [LINK, MIXED, None], [links, contents, None])
        check_errors(self, leading_to, ["link", "contents", "other"], [LINK, MIXED, MIXED], [links, contents, contents])
        for function in (behind, wrong_step, ends_turn, hands_out):
            check_errors(
                self, function, ["link", "contents", "event"], [LINK, MIXED, ("hear", 1)], [links, contents, events])

    def test_whatever_is_no_event_is_not_possible(self):
        for value in BAD_EVENTS + [("double", "new"), ("repeat", 1), ("hear", True), ["hear", 1]]:
            self.assertIs(is_possible(LINK, MIXED, value), False)

    def test_contents_of_another_link(self):
        larger = ((0, 2), (1, ("old", 3), True), (2, 0, 2), (0, 1))
        expect(self, behind, ["link", "contents", "event"], [LINK, larger, ("hear", 1)], InvalidContents, larger)
        expect(self, leading_to, ["link", "contents", "other"], [LINK, MIXED, larger], InvalidContents, larger)

    def test_new_lists(self):
        check_unchanged(self, possible_events, LINK, MIXED)
        check_unchanged(self, leading_to, LINK, MIXED, behind(LINK, MIXED, ("drop", "one")))
        events = possible_events(LINK, MIXED)
        events.clear()
        self.assertEqual(len(possible_events(LINK, MIXED)), 6)


if __name__ == "__main__":
    unittest.main()
