import random
import unittest

from healwires.contents import empty, is_far_run, mirrored
from healwires.errors import InvalidContents, InvalidEvent, InvalidLink, Unlike
from healwires.fates import fate_run, fates, fates_behind, firsts, is_fate, is_fate_run, most_of
from healwires.harm import harm, signs
from healwires.runs import far_wrong_steps
from model import (
    BAD_CONTENTS, BAD_EVENTS, BAD_FARS, BAD_KINDS, BAD_LINKS, ODD_VALUES, WRONG_KINDS, all_contents, all_events,
    all_fates, check_errors, check_unchanged, expect, shares_lists, some_contents_of, some_sound_links, step, walk_far,
)

LINK = (3, 2, 4, 4)
MIXED = ((0, 2), (1, ("old", 3), True), (1, 0, 2), (0, 1))
BIG = 10 ** 29
SOUND = [
    (1, 1, 1, 1), (1, 1, 2, 2), (2, 1, 2, 1), (2, 1, 3, 2), (1, 2, 1, 2), (1, 2, 2, 3), (2, 2, 2, 2), (1, 1, 3, 3),
    (3, 1, 3, 1), (1, 3, 1, 3),
]
UNSOUND = [(2, 1, 1, 1), (1, 2, 1, 1), (3, 2, 2, 2), (BIG, 1, BIG - 1, 1), (1, BIG, 1, BIG - 1)]
START = ((0, 0), (1, None, False), (0, 0, 0), (0, 0))
# Of each row of the table the columns: always, if answers suffice, if old copies suffice, if both do.
TABLE = {
    (False, False): ("", "ll lm", "ml", ""),
    (True, True): ("", "", "mt", "ml mm"),
    (False, True): ("t", "l m", "m", ""),
    (True, False): ("l", "", "m", "lml mll mlm"),
}
LETTERS = {"l": "lost", "m": "made", "t": "twice"}


def by_table(even, done, answers_suffice, old_suffice):
    """The fates that the table of the document tells for four signs."""
    columns = (True, answers_suffice, old_suffice, answers_suffice and old_suffice)
    words = " ".join(told for told, counts in zip(TABLE[(even, done)], columns) if counts).split()
    begun = {word[:many] for word in words for many in range(len(word) + 1)} | {""}
    return sorted([LETTERS[letter] for letter in word] for word in begun)


class Fates(unittest.TestCase):
    """Point 26."""

    def test_the_examples_of_the_document(self):
        link, both = (1, 1, 1, 1), ((0, 0), (0, None, False), (0, 0, 1), (1, 0))
        self.assertEqual(
            fates(link, both),
            [[], ["lost"], ["lost", "made"], ["lost", "made", "lost"], ["made"], ["made", "lost"],
             ["made", "lost", "lost"], ["made", "lost", "made"]])
        self.assertEqual(
            [fates_behind(link, both, ("bring", "one")), fates_behind(link, both, ("drop", "one")),
             firsts(link, both), most_of(link, both, "made"), is_fate(link, both, ["twice"])],
            [[["made"], ["made", "lost"], ["made", "lost", "lost"], ["made", "lost", "made"]], [[], ["lost"]],
             ["lost", "made"], 2, False])
        wide = (3, 2, 10 ** 20, 10 ** 20)
        stale = ((0, 10 ** 20 - 1), (1, ("old", 10 ** 20 - 1), True), (1, 1, 1), (1, 0))
        self.assertEqual(
            [fates(wide, stale), is_fate_run(wide, stale, ["made"], [([("bring", "zero")], 1)]),
             is_fate_run(wide, stale, ["lost"], fate_run(wide, stale, ["lost"])),
             fate_run(wide, stale, ["made", "lost"])],
            [[[], ["lost"], ["made"], ["twice"]], True, True, None])

    def test_they_are_what_all_runs_do(self):
        for link in SOUND:
            rows = set()
            for contents, found in all_fates(link).items():
                self.assertEqual(fates(link, contents), found, (link, contents))
                self.assertEqual(found, by_table(*signs(link, contents)))
                self.assertEqual(fates(link, mirrored(link, contents)), found)
                rows.add(signs(link, contents))
            self.assertEqual(len(rows), 16)

    def test_a_larger_link(self):
        for contents, found in all_fates((2, 2, 3, 3)).items():
            self.assertEqual(fates((2, 2, 3, 3), contents), found, contents)

    def test_each_cell_of_the_table_at_great_numbers(self):
        rows = set()
        for link in ((BIG, BIG, BIG, BIG), (BIG, BIG, BIG + 3, BIG + 5)):
            p, q = link[2:]
            for own in (0, 1):
                for done in (False, True):
                    for old, answered in ((p - 9, q - 9), (p - 10, q - 9), (p - 9, q - 10), (p - 10, q - 10)):
                        there = [0, 0, 0]
                        there[2 - own] = old
                        contents = ((0, 9), (own, ("old", 9), done), tuple(there), (answered, 1))
                        told = (own == 0, done, answered == q - 9, old == p - 9)
                        self.assertEqual(signs(link, contents), told)
                        self.assertEqual(fates(link, contents), by_table(*told))
                        rows.add(told)
        self.assertEqual(len(rows), 16)

    def test_other_functions_by_them(self):
        for link in SOUND[:8]:
            for contents in all_contents(link):
                found = fates(link, contents)
                self.assertEqual(max(len(fate) for fate in found), harm(link, contents))
                self.assertEqual(firsts(link, contents), sorted({fate[0] for fate in found if fate}))
                for kind in WRONG_KINDS:
                    self.assertEqual(most_of(link, contents, kind), max(fate.count(kind) for fate in found))
                self.assertFalse(any("twice" in fate[:-1] for fate in found))

    def test_what_is_a_fate(self):
        lists = [[]]
        for _ in range(3):
            lists += [fate + [kind] for fate in lists for kind in WRONG_KINDS]
        lists.append(["lost", "made", "lost", "made"])
        for link in SOUND[:3]:
            for contents in all_contents(link):
                found = fates(link, contents)
                for value in lists:
                    self.assertIs(is_fate(link, contents, value), value in found, value)
        both = ((0, 0), (0, None, False), (0, 0, 1), (1, 0))
        for value in [value for value in ODD_VALUES if value != []] + [
            ("lost",), "lost", [("lost",)], ["Lost"], [None], [["lost"]], ["lost", None], ["lost", "made", ()],
        ]:
            self.assertIs(is_fate((1, 1, 1, 1), both, value), False, value)
            self.assertIsNone(fate_run((1, 1, 1, 1), both, value))
            self.assertIs(is_fate_run((1, 1, 1, 1), both, value, []), False)


class ByEvents(unittest.TestCase):
    """Point 27."""

    def test_fates_behind(self):
        for link in SOUND[:9]:
            for contents in all_contents(link):
                found, together = fates(link, contents), [[]]
                for event in all_events():
                    told = step(link, contents, event)
                    if told is None:
                        with self.assertRaises(InvalidEvent):
                            fates_behind(link, contents, event)
                        continue
                    ahead = [told[1]] if told[1] else []
                    later = fates_behind(link, contents, event)
                    self.assertEqual(later, [ahead + fate for fate in fates(link, told[0])])
                    self.assertEqual(later, sorted(later))
                    together += [fate for fate in later if fate not in together]
                self.assertEqual(sorted(together), found)

    def test_no_event_gives_a_fate_at_great_numbers(self):
        draw = random.Random(31)
        links = some_sound_links(draw)
        for _ in range(500):
            link = next(links)
            contents = some_contents_of(link, draw)
            found = fates(link, contents)
            for event in all_events():
                if step(link, contents, event):
                    for fate in fates_behind(link, contents, event):
                        self.assertIn(fate, found)


class Runs(unittest.TestCase):
    """Point 28."""

    def check(self, link, contents, fate):
        far = fate_run(link, contents, fate)
        self.assertTrue(is_far_run(far))
        self.assertLessEqual(len(far), 8)
        self.assertFalse(shares_lists(far))
        self.assertIs(is_fate_run(link, contents, fate, far), True)
        if not fate:
            self.assertEqual(far, [])
        return far

    def test_all_contents_of_small_links(self):
        seen = set()
        for link in SOUND + [(2, 2, 3, 3), (3, 2, 3, 2), (2, 3, 4, 3)]:
            for contents in all_contents(link):
                for fate in fates(link, contents):
                    far = self.check(link, contents, fate)
                    self.assertEqual(walk_far(link, contents, far)[1], fate)
                    seen.add(tuple(fate) + signs(link, contents))
        # All fates of all sixteen rows of signs.
        rows = [(a, b, c, d) for a in (0, 1) for b in (0, 1) for c in (0, 1) for d in (0, 1)]
        self.assertEqual(len(seen), sum(len(by_table(*row)) for row in rows))

    def test_great_links(self):
        draw = random.Random(32)
        links, lengths = some_sound_links(draw), [0, 0, 0, 0]
        for _ in range(1500):
            link = next(links)
            contents = some_contents_of(link, draw)
            for fate in fates(link, contents):
                far = self.check(link, contents, fate)
                self.assertEqual(far_wrong_steps(link, contents, far), fate)
                lengths[len(fate)] += 1
        self.assertTrue(all(many > 50 for many in lengths), lengths)

    def test_what_is_a_run_for_a_fate(self):
        draw, right = random.Random(33), 0
        for link in SOUND[:8]:
            for _ in range(200):
                contents = start = some_contents_of(link, draw)
                far = []
                for _ in range(draw.randint(0, 10)):
                    event = draw.choice([event for event in all_events() if step(link, contents, event)])
                    contents = step(link, contents, event)[0]
                    far.append(([event], 1))
                wrongs = walk_far(link, start, far)[1]
                for fate in fates(link, start):
                    self.assertIs(is_fate_run(link, start, fate, far), fate == wrongs)
                    right += fate == wrongs and len(fate) > 0
                self.assertIs(is_fate_run(link, start, tuple(wrongs), far), False)
        self.assertGreater(right, 100)

    def test_the_empty_fate(self):
        for contents in (START, ((0, 0), (1, None, True), (1, 0, 0), (0, 0))):
            self.assertEqual(fate_run((1, 1, 1, 1), contents, []), [])
            self.assertIs(is_fate_run((1, 1, 1, 1), contents, [], []), True)
        sent = [([("send",)], 1)]
        self.assertIs(is_fate_run((1, 1, 1, 1), START, [], sent), True)
        self.assertIs(is_fate_run((1, 1, 1, 1), START, [], sent * 2), False)
        self.assertIs(is_fate_run((1, 1, 1, 1), START, ["lost"], sent), False)
        self.assertIsNone(fate_run((1, 1, 1, 1), START, ["lost"]))

    def test_whatever_is_no_far_run(self):
        for value in BAD_FARS + [[([("hear", 0)], 1)], [([("double", "zero")], 1)]]:
            for fate in fates(LINK, MIXED):
                self.assertIs(is_fate_run(LINK, MIXED, fate, value), False, value)


class Refused(unittest.TestCase):
    """Points 2, 5, 26 to 28."""

    def test_errors(self):
        links, contents = (InvalidLink, BAD_LINKS), (InvalidContents, BAD_CONTENTS)
        pair = ["link", "contents"]
        for function in (fates, firsts):
            check_errors(self, function, pair, [LINK, MIXED], [links, contents])
        check_errors(self, is_fate, pair + ["value"], [LINK, MIXED, []], [links, contents, None])
        check_errors(self, fate_run, pair + ["fate"], [LINK, MIXED, []], [links, contents, None])
        check_errors(
            self, is_fate_run, pair + ["fate", "value"], [LINK, MIXED, None, None], [links, contents, None, None])
        check_errors(
            self, most_of, pair + ["kind"], [LINK, MIXED, "lost"], [links, contents, (InvalidEvent, BAD_KINDS)])
        events = (InvalidEvent, BAD_EVENTS + [("double", "new"), ("bring", "zero"), ("hear", 0)])
        check_errors(
            self, fates_behind, pair + ["event"], [LINK, MIXED, ("hear", 1)], [links, contents, events])

    def test_a_sound_link_is_wanted_behind_all_other_errors(self):
        pair = ["link", "contents"]
        for link in UNSOUND:
            for function, names, more in (
                (fates, [], []), (firsts, [], []), (is_fate, ["value"], [[]]), (fate_run, ["fate"], [["lost"]]),
                (is_fate_run, ["fate", "value"], [["lost"], []]), (is_fate_run, ["fate", "value"], [None, None]),
                (most_of, ["kind"], ["made"]), (fates_behind, ["event"], [("send",)]),
            ):
                expect(self, function, pair + names, [link, START] + more, Unlike, link)
                expect(self, function, pair + names, [link, None] + more, InvalidContents, None)
            expect(self, most_of, pair + ["kind"], [link, START, "mad"], InvalidEvent, "mad")
            expect(self, fates_behind, pair + ["event"], [link, START, ("hear", 0)], InvalidEvent, ("hear", 0))

    def test_new_lists(self):
        link, both = (1, 1, 1, 1), ((0, 0), (0, None, False), (0, 0, 1), (1, 0))
        check_unchanged(self, fates, link, both)
        check_unchanged(self, firsts, link, both)
        for fate in fates(link, both):
            far = check_unchanged(self, fate_run, link, both, fate)
            check_unchanged(self, is_fate_run, link, both, fate, far)
            check_unchanged(self, is_fate, link, both, fate)
        for event in (("bring", "one"), ("hear", 0), ("drop", "one")):
            check_unchanged(self, fates_behind, link, both, event)
        check_unchanged(self, fates_behind, LINK, empty(LINK, 0), ("send",))


if __name__ == "__main__":
    unittest.main()
