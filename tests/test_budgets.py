import itertools
import random
import unittest

from healwires.budgets import (
    budget, faulty_after, faulty_wrong, is_faulty_run, is_worst_faulty, most_wrong, worst_faulty,
)
from healwires.contents import empty
from healwires.errors import InvalidContents, InvalidEvent, InvalidLink, InvalidRun, Unlike
from healwires.faults import rise, worth
from healwires.harm import harm
from healwires.runs import far_after, far_wrong_steps
from model import (
    BAD_CONTENTS, BAD_FAULTY, BAD_LINKS, BAD_LISTS_OF_KINDS, KINDS_OF_FAULTS, ODD_VALUES, all_events,
    all_faults, befallen, check_errors, check_unchanged, drawn_contents, expect, harms, is_fault_item, shares_lists,
    some_contents_of, some_items, some_sound_links, step, walk_faulty,
)

LINK = (3, 2, 4, 4)
MIXED = ((0, 2), (1, ("old", 3), True), (1, 0, 2), (0, 1))
ITEMS = [("turn", "one"), ([("bring", "zero")], 1), ("heard", 3), ([("hear", 1), ("bring", "new")], 1)]
KINDS = ["sender", "copy", "lot", "copy"]
BIG = 10 ** 29
TIGHT = [(1, 1, 1, 1), (2, 1, 2, 1), (1, 2, 1, 2), (2, 2, 2, 2), (3, 1, 3, 1), (1, 3, 1, 3)]
LOOSE = [(1, 1, 2, 1), (1, 1, 1, 2), (1, 1, 3, 3), (2, 1, 3, 1), (1, 2, 2, 3), (2, 2, 3, 2)]
UNSOUND = [(2, 1, 1, 1), (1, 2, 1, 1), (3, 2, 2, 2), (BIG, 1, BIG - 1, 1), (1, BIG, 1, BIG - 1)]
START = ((0, 0), (1, None, False), (0, 0, 0), (0, 0))


class FaultyRuns(unittest.TestCase):
    """Points 51 and 52."""

    def test_the_examples_of_the_document(self):
        link, start = (2, 2, 2, 2), empty((2, 2, 2, 2), 0)
        items = [([("send",)], 2), ("sender",), ([("bring", "zero")], 2)]
        self.assertEqual(
            [faulty_after(link, start, items), faulty_wrong(link, start, items), budget(link, start, items),
             is_faulty_run(link, start, items + items)],
            [((1, 0), (0, None, False), (0, 0, 0), (1, 0)), ["made"], 1, False])
        ready = ((0, 0), (1, None, False), (2, 0, 0), (0, 2))
        worst = worst_faulty(link, start, ["sender", "copy"])
        self.assertEqual(
            [most_wrong(link, start, ["sender", "copy"]), is_worst_faulty(link, start, ["sender", "copy"], worst),
             most_wrong(link, ready, []), worst_faulty((2, 2, 3, 2), start, [])],
            [5, True, 0, None])

    def test_one_event_and_fault_behind_the_other(self):
        draw, known, wrong = random.Random(511), {}, 0
        for link in TIGHT + LOOSE + [LINK]:
            told = harms(link)
            for contents in drawn_contents(link, 120):
                items = some_items(link, contents, draw, 9)
                later, wrongs, faults, _ = walk_faulty(link, contents, items)
                self.assertIs(is_faulty_run(link, contents, items), True)
                self.assertEqual(faulty_after(link, contents, items), later)
                self.assertEqual(faulty_wrong(link, contents, items), wrongs)
                rises = sum(told[behind] - told[ahead] for ahead, behind in faults)
                self.assertEqual(budget(link, contents, items), told[contents] + rises)
                self.assertLessEqual(len(wrongs) + told[later], budget(link, contents, items))
                wrong += len(wrongs)
                known[len(faults)] = known.get(len(faults), 0) + 1
        self.assertGreater(wrong, 300)
        self.assertGreater(min(known[many] for many in range(5)), 30)

    def test_what_cannot_come_now(self):
        draw, none = random.Random(512), 0
        for link in ((2, 2, 2, 2), (1, 2, 2, 3), LINK):
            for contents in drawn_contents(link, 200):
                items = some_items(link, contents, draw, 5)
                items.insert(draw.randint(0, len(items)), draw.choice(
                    all_faults(link) + [([draw.choice(all_events())], draw.randint(0, 3)) for _ in range(15)]
                    + [("heard", link[3]), ("lot", link[2]), ([("send",), ("bring", "new"), ("hear", 0)], 5)]))
                told = walk_faulty(link, contents, items)
                self.assertIs(is_faulty_run(link, contents, items), told is not None)
                if told is None:
                    none += 1
                    for function in (faulty_after, faulty_wrong, budget):
                        expect(
                            self, function, ["link", "contents", "items"], [link, contents, items], InvalidRun, items)
        self.assertGreater(none, 100)

    def test_no_item_and_each_kind_alone(self):
        self.assertEqual(
            [faulty_after(LINK, MIXED, []), faulty_wrong(LINK, MIXED, []), budget(LINK, MIXED, [])],
            [MIXED, [], harm(LINK, MIXED)])
        faults = [
            ("turn", "new"), ("turn", "one"), ("answer", 0), ("swap", 1), ("sender",), ("receiver",), ("heard", 0),
            ("heard", 3), ("lot", 0), ("lot", 3),
        ]
        for fault in faults:
            self.assertEqual(faulty_after(LINK, MIXED, [fault]), befallen(LINK, MIXED, fault))
            self.assertEqual(faulty_wrong(LINK, MIXED, [fault]), [])
            self.assertEqual(budget(LINK, MIXED, [fault]), harm(LINK, MIXED) + rise(LINK, MIXED, fault))
        room = ((0, 2), (1, ("old", 3), True), (0, 0, 2), (0, 1))
        self.assertEqual(faulty_after(LINK, room, [("copy", 0)]), room[:2] + ((0, 1, 2), (0, 1)))

    def test_at_most_one_turn_in_an_item_and_any_number_in_the_run(self):
        go = ([("send",), ("bring", "new"), ("hear", 0), ("send",), ("bring", "new"), ("hear", 1)], 1)
        turn = [([("send",), ("bring", "new"), ("hear", 0)], 1), ([("send",), ("bring", "new"), ("hear", 1)], 1)]
        self.assertIs(is_faulty_run((1, 1, 1, 1), START, [go]), False)
        self.assertIs(is_faulty_run((1, 1, 1, 1), START, turn * 100), True)
        self.assertEqual(faulty_wrong((1, 1, 1, 1), START, turn * 20), [])

    def test_great_links(self):
        link = (BIG, BIG, BIG + 1, BIG)
        items = [([("send",)], BIG), ("sender",), ([("bring", "zero")], BIG), ("turn", "new")]
        self.assertIs(is_faulty_run(link, START, items), False)
        items[3] = ("copy", 0)
        self.assertEqual([budget(link, START, items[:many]) for many in range(5)], [0, 0, 1, 1, 1])
        self.assertEqual(
            faulty_after(link, START, items), ((1, 0), (1, ("old", BIG), False), (0, 1, 0), (0, 0)))
        items.append(([("bring", "zero")], 1))
        self.assertEqual(faulty_wrong(link, START, items), ["made"])
        self.assertEqual(faulty_after(link, START, items), ((1, 0), (0, None, False), (0, 0, 0), (1, 0)))


class MostWrong(unittest.TestCase):
    """Point 53."""

    def test_what_is_told(self):
        for link in TIGHT + LOOSE:
            for contents in drawn_contents(link, 60):
                for kinds in ([], KINDS, KINDS_OF_FAULTS, KINDS_OF_FAULTS + ["heard", "lot"]):
                    self.assertEqual(
                        most_wrong(link, contents, kinds),
                        harm(link, contents) + sum(worth(link, kind) for kind in kinds))

    def test_no_more_by_one_fault_and_no_less_in_tight_links(self):
        for link in TIGHT[:4] + LOOSE[:4]:
            plain = harms(link)
            for kind in KINDS_OF_FAULTS:
                most = greatest(link, plain, [kind])
                for contents, many in most.items():
                    told = most_wrong(link, contents, [kind])
                    self.assertEqual(told, plain[contents] + worth(link, kind))
                    self.assertLessEqual(many, told)
                    if link in TIGHT:
                        self.assertEqual(many, told)

    def test_no_more_by_two_faults_in_whatever_order(self):
        for link in ((1, 1, 1, 1), (1, 1, 2, 2), (2, 1, 2, 1)):
            plain = harms(link)
            for kinds in itertools.combinations_with_replacement(KINDS_OF_FAULTS, 2):
                most = greatest(link, greatest(link, plain, kinds[:1]), kinds[1:])
                other = greatest(link, greatest(link, plain, kinds[1:]), kinds[:1])
                for contents in plain:
                    told = most_wrong(link, contents, list(kinds))
                    self.assertLessEqual(max(most[contents], other[contents]), told)
                    if link in TIGHT:
                        self.assertEqual((most[contents], other[contents]), (told, told))

    def check_worst(self, link, contents, kinds):
        items = worst_faulty(link, contents, kinds)
        told = walk_faulty(link, contents, items) if max(link) < 9 else None
        wrongs = told[1] if told else faulty_wrong(link, contents, items)
        self.assertEqual(len(wrongs), most_wrong(link, contents, kinds))
        self.assertEqual(
            [item[0] for item in items if is_fault_item(item)], [kind for kind in kinds if worth(link, kind) > 0])
        self.assertLessEqual(len(items), 30 * len(kinds) + 10)
        self.assertIs(is_worst_faulty(link, contents, kinds, items), True)
        self.assertFalse(shares_lists(items))
        return items

    def test_worst_faulty_runs_of_small_links(self):
        draw = random.Random(531)
        for link in TIGHT + [(3, 2, 3, 2)]:
            for contents in drawn_contents(link, 100):
                for kind in KINDS_OF_FAULTS:
                    self.check_worst(link, contents, [kind])
                kinds = [draw.choice(KINDS_OF_FAULTS) for _ in range(draw.randint(0, 10))]
                self.check_worst(link, contents, kinds)

    def test_worst_faulty_runs_of_great_links(self):
        draw = random.Random(532)
        links = some_sound_links(draw)
        for link in [(BIG, BIG, BIG, BIG), (BIG, 1, BIG, 1), (1, BIG, 1, BIG)] + [next(links) for _ in range(60)]:
            link = link[:2] * 2
            contents = some_contents_of(link, draw)
            self.check_worst(link, contents, KINDS_OF_FAULTS)
            self.check_worst(link, contents, [draw.choice(KINDS_OF_FAULTS) for _ in range(10)])

    def test_nothing_to_do_and_links_that_are_not_tight(self):
        for kinds in ([], ["heard"], ["lot", "heard", "lot"]):
            self.assertEqual(worst_faulty((1, 1, 1, 1), START, kinds), [])
            self.assertEqual(most_wrong((1, 1, 1, 1), START, kinds), 0)
        for link in LOOSE + [(BIG, BIG, BIG, BIG + 1), (BIG, BIG, BIG + 1, BIG)]:
            for kinds in ([], ["sender"]):
                self.assertIsNone(worst_faulty(link, START, kinds))

    def test_judged_in_links_that_are_not_tight(self):
        link, items = (1, 1, 2, 1), [("answer", 0), ([("hear", 0)], 1)]
        self.assertEqual(faulty_wrong(link, START, items), ["lost"])
        self.assertIs(is_worst_faulty(link, START, ["answer"], items), False)
        items.append(([("send",), ("bring", "new"), ("hear", 1)], 1))
        self.assertEqual(faulty_wrong(link, START, items), ["lost", "lost"])
        self.assertIs(is_worst_faulty(link, START, ["answer"], items), True)
        self.assertIs(is_worst_faulty(link, START, ["swap"], items), False)
        self.assertIs(is_worst_faulty(link, START, ["receiver", "answer"], items), False)
        self.assertIs(is_worst_faulty(link, START, [], [([("send",)], 1)]), True)

    def test_what_is_none(self):
        link, kinds = (2, 2, 2, 2), ["copy", "heard", "copy", "receiver"]
        items = worst_faulty(link, START, kinds)
        self.assertIs(is_worst_faulty(link, START, kinds, items), True)
        self.assertIs(is_worst_faulty(link, START, kinds[::-1], items), False)
        self.assertIs(is_worst_faulty(link, START, kinds[:3], items), False)
        self.assertIs(is_worst_faulty(link, START, kinds + ["swap"], items), False)
        self.assertIs(is_worst_faulty(link, START, ["copy", "copy", "receiver", "heard"], items), False)
        self.assertIs(is_worst_faulty(link, START, kinds, items + [([("send",)], 0)]), True)
        self.assertIs(is_worst_faulty(link, START, kinds, items + [("copy", 0)]), False)
        for place in range(len(items)):
            if not is_fault_item(items[place]):
                rest = items[:place] + items[place + 1:]
                told = walk_faulty(link, START, rest)
                self.assertIs(
                    is_worst_faulty(link, START, kinds, rest), told is not None and len(told[1]) == 7)
        for value in BAD_FAULTY:
            self.assertIs(is_worst_faulty(link, START, kinds, value), False)

    def test_faults_left_out(self):
        """The kinds need not all come, as long as as much goes wrong; those of no worth may come, too."""
        link = (1, 1, 1, 1)
        items = worst_faulty(link, START, ["copy"])
        for kinds in (["copy", "lot"], ["heard", "copy"], ["heard", "copy", "lot"]):
            self.assertIs(is_worst_faulty(link, START, kinds, items), True)
        with_lot = [("lot", 0)] + items
        self.assertIs(is_worst_faulty(link, START, ["lot", "copy"], with_lot), True)
        self.assertIs(is_worst_faulty(link, START, ["copy", "lot"], with_lot), False)
        self.assertIs(is_worst_faulty(link, START, ["copy"], with_lot), False)


def greatest(link, ends, kinds):
    """The greatest number of wrong steps of runs with a fault of some kinds at most, then as many as ends tells."""
    faults = [fault for fault in all_faults(link) if fault[0] in kinds]
    found, steps = {}, {}
    for contents in ends:
        later = [befallen(link, contents, fault) for fault in faults]
        found[contents] = max([ends[contents]] + [ends[one] for one in later if one is not None])
        told = [step(link, contents, event) for event in all_events()]
        steps[contents] = [(one[0], 1 if one[1] else 0) for one in told if one is not None]
    changed = True
    while changed:
        changed = False
        for contents, rows in steps.items():
            most = max([found[later] + wrong for later, wrong in rows], default=0)
            if most > found[contents]:
                found[contents], changed = most, True
    return found


class Refused(unittest.TestCase):
    """Points 2, 5, 51 to 53."""

    def test_errors(self):
        links, contents = (InvalidLink, BAD_LINKS), (InvalidContents, BAD_CONTENTS)
        # What can't come behind MIXED, too.
        none = [[("copy", 0)], [([("send",)], 1)], [([("bring", "one")], 3)], ITEMS + ITEMS]
        items, kinds = (InvalidRun, BAD_FAULTY + none), (InvalidEvent, BAD_LISTS_OF_KINDS)
        names = ["link", "contents", "items"]
        good = [LINK, MIXED, [("turn", "one"), ([("bring", "zero")], 1)]]
        check_errors(self, is_faulty_run, names[:2] + ["value"], good, [links, contents, None])
        for function in (faulty_after, faulty_wrong, budget):
            check_errors(self, function, names, good, [links, contents, items])
        names = ["link", "contents", "kinds", "value"]
        for function in (most_wrong, worst_faulty):
            check_errors(self, function, names[:3], [LINK, MIXED, KINDS], [links, contents, kinds])
        check_errors(self, is_worst_faulty, names, [LINK, MIXED, KINDS, None], [links, contents, kinds, None])

    def test_any_value_is_judged(self):
        for value in BAD_FAULTY:
            self.assertIs(is_faulty_run(LINK, MIXED, value), False)
        self.assertIs(is_faulty_run(LINK, MIXED, []), True)
        for value in ODD_VALUES:
            self.assertIs(is_faulty_run(LINK, MIXED, [value]), value == ("sender",))

    def test_a_sound_link_is_wanted_behind_all_other_errors(self):
        names = ["link", "contents", "items"]
        for link in UNSOUND:
            for function, name, good, bad, error in (
                    (faulty_after, "items", [("sender",)], [("swap", 0)], InvalidRun),
                    (faulty_wrong, "items", [], [None], InvalidRun), (budget, "items", [], None, InvalidRun),
                    (most_wrong, "kinds", [], ["send"], InvalidEvent),
                    (worst_faulty, "kinds", ["lot"], "lot", InvalidEvent)):
                names = ["link", "contents", name]
                expect(self, function, names, [link, START, good], Unlike, link)
                expect(self, function, names, [link, START, bad], error, bad)
                expect(self, function, names, [link, None, bad], InvalidContents, None)
            expect(self, is_faulty_run, ["link", "contents", "value"], [link, START, []], Unlike, link)
            expect(self, is_faulty_run, ["link", "contents", "value"], [link, None, []], InvalidContents, None)
            names = ["link", "contents", "kinds", "value"]
            expect(self, is_worst_faulty, names, [link, START, [], []], Unlike, link)
            expect(self, is_worst_faulty, names, [link, START, 0, []], InvalidEvent, 0)

    def test_new_lists(self):
        items = [("turn", "one"), ([("bring", "zero")], 1)]
        for function in (faulty_after, faulty_wrong, budget, is_faulty_run):
            check_unchanged(self, function, LINK, MIXED, items)
        check_unchanged(self, most_wrong, LINK, MIXED, KINDS)
        link, contents = (2, 2, 2, 2), ((0, 1), (0, ("old", 1), False), (0, 0, 1), (1, 0))
        found = check_unchanged(self, worst_faulty, link, contents, KINDS + ["swap", "receiver", "answer"])
        check_unchanged(self, is_worst_faulty, link, contents, KINDS + ["swap", "receiver", "answer"], found)
        self.assertEqual(far_after(link, START, []), START)
        self.assertEqual(far_wrong_steps(link, START, []), [])


if __name__ == "__main__":
    unittest.main()
