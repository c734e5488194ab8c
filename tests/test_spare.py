import random
import unittest

from healwires.budgets import faulty_after, faulty_wrong, is_faulty_run
from healwires.contents import empty
from healwires.endless import endless_run
from healwires.errors import InvalidEvent, InvalidLink, Unlike
from healwires.harm import harm
from healwires.spare import is_forgiven, is_unforgiven, spare, unforgiven
from model import (
    BAD_FAULTY, BAD_KINDS_OF_FAULTS, BAD_LINKS, ODD_VALUES, all_events, befallen, check_errors, check_unchanged, expect,
    is_fault_item, shares_lists, some_items, some_sound_links, step, walk_faulty,
)

BIG = 10 ** 29
SOUND = [
    (1, 1, 1, 1), (1, 1, 2, 2), (2, 1, 2, 1), (2, 1, 3, 2), (1, 2, 1, 2), (1, 2, 2, 3), (2, 2, 2, 2), (1, 1, 3, 3),
    (1, 1, 1, 3), (1, 1, 4, 1), (2, 2, 4, 3), (3, 2, 4, 4),
]
UNSOUND = [(2, 1, 1, 1), (1, 2, 1, 1), (3, 2, 2, 2), (BIG, 1, BIG - 1, 1), (1, BIG, 1, BIG - 1)]
FORGED = {"copy": "lot", "turn": "lot", "answer": "turn", "swap": "turn"}


def most_in_a_row(link, items):
    """By what ends a row: the greatest number of faults in a row; None if there are faults of other kinds."""
    found = {"lot": 0, "turn": 0}
    for end in found:
        rows, contents = [0], empty(link, 0)
        for item in items:
            contents, _, _, come = walk_faulty(link, contents, [item])
            if is_fault_item(item):
                if item[0] not in FORGED:
                    return None
                rows[-1] += FORGED[item[0]] == end
            elif end in come:
                rows.append(0)
        found[end] = max(rows)
    return found


class Forgiven(unittest.TestCase):
    """Point 54."""

    def test_the_examples_of_the_document(self):
        forged = [("copy", 0), ([("bring", "zero")], 1), ("copy", 0), ([("bring", "zero")], 1)]
        self.assertEqual(
            [spare((1, 1, 3, 2)), is_forgiven((1, 1, 3, 2), forged), is_forgiven((1, 1, 2, 2), forged),
             is_unforgiven((1, 1, 2, 2), "copy", forged),
             is_unforgiven((1, 1, 3, 2), "answer", unforgiven((1, 1, 3, 2), "answer"))],
            [(2, 1), True, False, True, True])

    def test_spare(self):
        for link in SOUND:
            self.assertEqual(spare(link), (link[2] - link[0], link[3] - link[1]))
        self.assertEqual(spare((1, BIG, BIG, BIG)), (BIG - 1, 0))

    def test_drawn_runs(self):
        draw, found = random.Random(541), {True: 0, False: 0}
        for link in SOUND:
            for _ in range(300):
                kinds = draw.choice([None, list(FORGED), ["copy", "turn"], ["answer", "swap"], ["copy", "answer"]])
                items = some_items(link, empty(link, 0), draw, draw.choice([4, 9, 25]), kinds)
                rows = most_in_a_row(link, items)
                wanted = rows is not None and rows["lot"] <= link[2] - link[0] and rows["turn"] <= link[3] - link[1]
                self.assertIs(is_forgiven(link, items), wanted)
                if wanted:
                    self.assertEqual(faulty_wrong(link, empty(link, 0), items), [])
                found[wanted] += len(items) > 4
        self.assertGreater(min(found.values()), 200)

    def test_no_forgiven_run_has_a_wrong_step(self):
        """All that can come, with the numbers of faults since the last lot and the last turn, in small links."""
        for link in ((1, 1, 1, 1), (1, 1, 2, 2), (1, 1, 3, 1), (2, 1, 3, 2), (1, 2, 2, 3), (2, 2, 3, 2)):
            begin = (empty(link, 0), 0, 0)
            seen, work = {begin}, [begin]
            faults = [(kind, bit) for kind in ("copy", "answer", "swap") for bit in (0, 1)]
            faults += [("turn", copy) for copy in ("new", "zero", "one")]
            while work:
                contents, copies, answers = work.pop()
                found = []
                for event in all_events():
                    told = step(link, contents, event)
                    if told is not None:
                        self.assertIsNone(told[1])
                        found.append((told[0], 0 if told[3] else copies, 0 if told[2] else answers))
                for fault in faults:
                    later = befallen(link, contents, fault)
                    many = (copies + (FORGED[fault[0]] == "lot"), answers + (FORGED[fault[0]] == "turn"))
                    if later is not None and many[0] <= link[2] - link[0] and many[1] <= link[3] - link[1]:
                        found.append((later,) + many)
                for one in found:
                    if one not in seen:
                        seen.add(one)
                        work.append(one)

    def test_edges(self):
        link = (1, 1, 2, 2)
        copy, answer, drop = ("copy", 0), ("answer", 0), ([("drop", "zero")], 1)
        over = [([("send",), ("bring", "new")], 2)]
        ended = [([("hear", 0), ("send",), ("bring", "new")], 1), ([("hear", 0)], 1)]
        self.assertIs(is_forgiven(link, []), True)
        self.assertIs(is_forgiven(link, [copy, drop]), True)
        self.assertIs(is_forgiven(link, [copy, drop, copy]), False)
        self.assertIs(is_forgiven(link, [copy, ("turn", "zero")]), False)
        self.assertIs(is_forgiven(link, [copy, answer]), True)
        self.assertIs(is_forgiven(link, [copy, answer, ("swap", 0)]), False)
        self.assertIs(is_forgiven(link, [copy, drop] + over + [copy]), True)
        self.assertIs(is_forgiven(link, [answer, ([("miss", 0)], 1)] + over + [("swap", 0)]), False)
        self.assertIs(is_forgiven(link, [answer, ([("miss", 0)], 1)] + over + ended + [answer]), True)
        self.assertIs(is_forgiven(link, [answer, ([("miss", 0)], 1)] + over + ended + [answer, answer]), False)
        for fault in (("sender",), ("receiver",), ("heard", 0), ("lot", 0)):
            self.assertIs(is_forgiven(link, [fault]), False)
        # With nothing to spare no fault is forgiven, but anything without one is.
        self.assertIs(is_forgiven((1, 1, 1, 1), [copy]), False)
        self.assertIs(is_forgiven((1, 1, 1, 1), [answer]), False)
        self.assertIs(is_forgiven((1, 1, 1, 1), [([("send",), ("bring", "new"), ("hear", 0)], 1)]), True)
        for value in BAD_FAULTY + [[([("hear", 0)], 1)], [("swap", 0)]]:
            self.assertIs(is_forgiven(link, value), False)
        self.assertIs(is_forgiven((BIG, BIG, 2 * BIG, BIG), [([("send",)], BIG - 1), copy, ("turn", "new")]), True)

    def test_one_copy_less_than_the_wire_holds_forgives_nothing(self):
        """What is sound goes wrong for ever by no fault at all; what is not, without any."""
        self.assertIsNone(endless_run((1, 1, 1, 1), empty((1, 1, 1, 1), 0)))
        self.assertIsNotNone(endless_run((2, 1, 1, 1), empty((2, 1, 1, 1), 0)))


class Unforgiven(unittest.TestCase):
    """Point 54."""

    def check(self, link, kind):
        items = unforgiven(link, kind)
        many = link[2] - link[0] + 1 if kind == "copy" else link[3] - link[1] + 1
        start = empty(link, 0)
        self.assertTrue(is_faulty_run(link, start, items))
        self.assertEqual(faulty_wrong(link, start, items), ["made"] if kind == "copy" else ["lost"])
        events, times = items[-1]
        self.assertEqual(len(events), 1)
        self.assertEqual(faulty_wrong(link, start, items[:-1] + [(events, times - 1)]), [])
        self.assertEqual([item[0] for item in items if is_fault_item(item)], [kind] * many)
        self.assertLessEqual(len(items), 200)
        self.assertIs(is_unforgiven(link, kind, items), True)
        self.assertIs(is_unforgiven(link, "answer" if kind == "copy" else "copy", items), False)
        self.assertIs(is_forgiven(link, items), False)
        self.assertFalse(shares_lists(items))
        first = [is_fault_item(item) for item in items].index(True)
        return items, first

    def test_small_links(self):
        for link in SOUND + [(3, 3, 3, 3), (3, 1, 5, 2), (1, 3, 2, 5)]:
            for kind in ("copy", "answer"):
                items, first = self.check(link, kind)
                told = walk_faulty(link, faulty_after(link, empty(link, 0), items[:first]), items[first:])
                self.assertEqual(told[3][-1], "lot" if kind == "copy" else "turn")
                self.assertEqual(len(told[3]), told[3].count("fault") + 1)

    def test_great_links_and_many_spare_ones(self):
        draw = random.Random(542)
        links = some_sound_links(draw)
        for link in [(BIG, BIG, BIG, BIG), (1, 1, 51, 51), (BIG, BIG, BIG + 50, BIG + 50), (2, 3, 52, 3)] + [
                next(links) for _ in range(40)]:
            link = link[:2] + (min(link[2], link[0] + 50), min(link[3], link[1] + 50))
            for kind in ("copy", "answer"):
                self.check(link, kind)

    def test_judged_as_walked(self):
        draw, found = random.Random(543), {True: 0, False: 0}
        for link in SOUND[:9]:
            for kind in ("copy", "answer"):
                many = link[2] - link[0] + 1 if kind == "copy" else link[3] - link[1] + 1
                for _ in range(200):
                    items = unforgiven(link, kind)
                    for _ in range(draw.randint(0, 2)):
                        place = draw.randint(0, len(items))
                        contents = walk_faulty(link, empty(link, 0), items[:place])[0]
                        more = some_items(link, contents, draw, 2, [draw.choice(["copy", "answer", kind])])
                        if walk_faulty(link, empty(link, 0), items[:place] + more + items[place:]):
                            items = items[:place] + more + items[place:]
                    _, wrongs, _, come = walk_faulty(link, empty(link, 0), items)
                    told = [item[0] for item in items if is_fault_item(item)]
                    span = come[come.index("fault"):len(come) - come[::-1].index("fault")] if told else []
                    wanted = told == [kind] * many and FORGED[kind] not in span and wrongs != []
                    self.assertIs(is_unforgiven(link, kind, items), wanted)
                    found[wanted] += 1
        self.assertGreater(min(found.values()), 200)

    def test_what_is_none(self):
        link = (1, 1, 2, 2)
        items = unforgiven(link, "copy")
        self.assertIs(is_unforgiven(link, "copy", items + [([("send",)], 1)]), True)
        self.assertIs(is_unforgiven(link, "copy", items + [("copy", 0)]), False)
        self.assertIs(is_unforgiven(link, "copy", items + [("sender",)]), False)
        self.assertIs(is_unforgiven((1, 1, 3, 2), "copy", items), False)
        for value in BAD_FAULTY + [[], [("copy", 0)]]:
            self.assertIs(is_unforgiven(link, "copy", value), False)
        # Copies that were turned are as much too many, but no faults of the kind.
        turned = items[:-2] + [([("send",)], 1), ("turn", "new"), ([("bring", "zero")], 1)]
        self.assertEqual(faulty_wrong(link, empty(link, 0), turned), ["made"])
        self.assertIs(is_unforgiven(link, "copy", turned), False)
        self.assertIs(is_forgiven(link, turned), False)
        self.assertEqual(harm(link, faulty_after(link, empty(link, 0), items)), 1)


class Refused(unittest.TestCase):
    """Points 2, 5 and 54."""

    def test_errors(self):
        links = (InvalidLink, BAD_LINKS)
        kinds = (InvalidEvent, BAD_KINDS_OF_FAULTS + ["turn", "swap", "sender", "receiver", "heard", "lot"])
        check_errors(self, spare, ["link"], [(1, 1, 2, 2)], [links])
        check_errors(self, is_forgiven, ["link", "value"], [(1, 1, 2, 2), None], [links, None])
        check_errors(self, unforgiven, ["link", "kind"], [(1, 1, 2, 2), "copy"], [links, kinds])
        names = ["link", "kind", "value"]
        check_errors(self, is_unforgiven, names, [(1, 1, 2, 2), "answer", 0], [links, kinds, None])

    def test_a_sound_link_is_wanted_behind_all_other_errors(self):
        for link in UNSOUND:
            expect(self, spare, ["link"], [link], Unlike, link)
            expect(self, is_forgiven, ["link", "value"], [link, []], Unlike, link)
            expect(self, unforgiven, ["link", "kind"], [link, "copy"], Unlike, link)
            expect(self, unforgiven, ["link", "kind"], [link, "turn"], InvalidEvent, "turn")
            expect(self, is_unforgiven, ["link", "kind", "value"], [link, "answer", []], Unlike, link)
            expect(self, is_unforgiven, ["link", "kind", "value"], [link, None, []], InvalidEvent, None)

    def test_any_value_is_judged(self):
        for value in ODD_VALUES:
            self.assertIs(is_forgiven((1, 1, 2, 2), value), value == [])
            self.assertIs(is_unforgiven((1, 1, 2, 2), "copy", value), False)

    def test_new_lists(self):
        for kind in ("copy", "answer"):
            items = check_unchanged(self, unforgiven, (2, 2, 4, 4), kind)
            check_unchanged(self, is_unforgiven, (2, 2, 4, 4), kind, items)
            check_unchanged(self, is_forgiven, (2, 2, 4, 4), items)


if __name__ == "__main__":
    unittest.main()
