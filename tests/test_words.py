import itertools
import random
import unittest

from healwires.errors import InvalidLink, InvalidRun, InvalidWords, Unlike
from healwires.words import (
    explained, greatest_old, is_explained, is_word_contents, is_word_worst, least_apart, word_events, word_harm,
    word_run, word_worst,
)
from model import (
    BAD_LINKS, ODD_VALUES, all_word_events, all_words, check_errors, check_unchanged, expect, shares_lists,
    some_words, with_letter, word_step,
)

BIG = 10 ** 29
LINK, WORDS = (3, 1, 3, 1), ((0, 5, 0), (1, (7, 1), False), [(0, 5), (0, 7), (0, 7)], (0, 0))
WIDE, MIXED = (3, 2, 4, 4), ((0, 2, 2), (1, (2, 3), True), [(0, 2), (1, 0), (1, 9)], (0, 1))
SMALL = [(1, 1, 1, 1), (2, 1, 2, 1), (1, 2, 1, 2), (1, 1, 2, 2), (2, 1, 3, 1), (2, 2, 2, 2)]
UNSOUND = [(2, 1, 1, 1), (1, 2, 1, 1), (3, 2, 2, 2)]
REST = ((0, 0, 0), (1, None, False), [], (0, 0))


def key(words):
    return words[:2] + (tuple(words[2]), words[3])


def walk_words(link, words, given, events):
    """(words, marks, letters used) of a run by single steps; None if an event is not possible, or a letter lacks."""
    marks, used = [], 0
    for event in events:
        told = word_step(link, words, event)
        if told is None:
            return None
        words, mark, ended = told
        marks += [mark] if mark else []
        if ended:
            if used == len(given):
                return None
            words = with_letter(words, given[used])
            used += 1
    return words, marks, used


def some_events(link, words, draw, many, letters):
    """(given, events) of a run, drawn, which at times lets equal copies come together."""
    given, events, now = [], [], words
    for _ in range(many):
        found = [event for event in all_word_events(letters) if word_step(link, now, event)]
        lively = [event for event in found if event[0] in ("bring", "hear", "send")]
        event = draw.choice(lively if lively and draw.random() < 0.9 else found)
        if draw.random() < 0.4 and event[0] == "send":
            bringing = ("bring", now[0][:2])
            event = bringing if bringing in found else event
        now, _, ended = word_step(link, now, event)
        if ended:
            given.append(draw.choice(letters))
            now = with_letter(now, given[-1])
        events.append(event)
    return given, events


def most_wrong(link, letters):
    """For all word contents over some letters: the greatest number of wrong steps of all runs over these letters."""
    ahead, found = {}, {}
    for words in all_words(link, letters):
        found[key(words)] = 0
        for event in all_word_events(letters):
            told = word_step(link, words, event)
            if told is None:
                continue
            later, mark, ended = told
            wrong = 1 if mark and mark[0] != "right" else 0
            for one in [with_letter(later, letter) for letter in letters] if ended else [later]:
                ahead.setdefault(key(one), []).append((key(words), wrong))
    many, level = 0, list(found)
    while level and many < 6:
        many += 1
        reached = [words for later in level for words, wrong in ahead.get(later, ()) if wrong]
        seen = set(reached)
        work = list(seen)
        while work:
            for words, wrong in ahead.get(work.pop(), ()):
                if words not in seen:
                    seen.add(words)
                    work.append(words)
        for words in seen:
            found[words] = many
        level = list(seen)
    return found


class Contents(unittest.TestCase):
    """Point 68."""

    def test_the_examples_of_the_document(self):
        self.assertEqual(
            [is_word_contents(LINK, WORDS), greatest_old(LINK, WORDS), word_harm(LINK, WORDS),
             word_events(LINK, WORDS)],
            [True, (7, 3), 2, [("bring", (0, 5)), ("bring", (0, 7)), ("drop", (0, 5)), ("drop", (0, 7))]])
        run = [("bring", (0, 7)), ("bring", (0, 7)), ("send",), ("hear", 0)]
        self.assertEqual(
            [word_run(LINK, WORDS, [9], run), is_word_worst(LINK, WORDS, ([9], run)),
             is_word_worst(LINK, WORDS, ([], run[:2]))],
            [(((1, 9, 0), (0, None, False), [(0, 5), (0, 5)], (0, 0)), [5], [7], ["made", "lost"]), True, False])
        other = ((0, 7, 0), (1, (7, 1), False), [(0, 7), (0, 7), (1, 7)], (0, 0))
        self.assertEqual(
            [word_harm(LINK, ((0, 5, 0), (1, (7, 1), False), [(0, 5), (0, 6), (0, 7)], (0, 0))),
             greatest_old(LINK, other)],
            [0, None])
        self.assertEqual(
            [least_apart([1, 2, 3], [1, 3, 3]), least_apart([], [4]), explained([1, 2], [1]),
             is_explained([1, 2], [1], [("right", 1), ("lost", 2)]),
             is_explained([1, 2], [1], [("lost", 1), ("lost", 2), ("made", 1)])],
            [2, 1, [("right", 1), ("lost", 2)], True, False])

    def test_what_is_word_contents(self):
        for link in SMALL:
            for words in all_words(link, (0, 3)):
                self.assertIs(is_word_contents(link, words), True)
        for value in BAD_WORDS:
            self.assertIs(is_word_contents(WIDE, value), False)
        for link in UNSOUND:
            self.assertIs(is_word_contents(link, REST), True)
        great = ((1, BIG, BIG - 1), (0, (BIG, BIG - 1), True), [(1, BIG)] * 5, (BIG, 0))
        self.assertIs(is_word_contents((BIG,) * 4, great), True)
        self.assertIs(is_word_contents((4, BIG, BIG, BIG), great), False)

    def test_events(self):
        draw = random.Random(681)
        for link in SMALL + UNSOUND + [(5, 4, 3, 3)]:
            for _ in range(150):
                words = some_words(link, draw, [0, 4, 5])
                found = [event for event in all_word_events([0, 4, 5]) if word_step(link, words, event)]
                self.assertEqual(word_events(link, words), found)
        self.assertEqual(word_events((1, 1, 1, 1), REST), [("send",)])
        self.assertEqual(
            word_events((2, 2, 1, 1), ((0, 1, 0), (0, None, True), [(1, 1), (1, 1)], (1, 1))),
            [("bring", (1, 1)), ("drop", (1, 1)), ("hear", 0), ("hear", 1), ("miss", 0), ("miss", 1)])


BAD_WORDS = ODD_VALUES + [
    list(MIXED), MIXED[:3], MIXED + ((),), ((0, 2), *MIXED[1:]), ([0, 2, 2], *MIXED[1:]), ((2, 2, 2), *MIXED[1:]),
    ((False, 2, 2), *MIXED[1:]), ((0, -1, 2), *MIXED[1:]), ((0, True, 2), *MIXED[1:]), ((0, "2", 2), *MIXED[1:]),
    ((0, 2, 4), *MIXED[1:]), ((0, 2, -1), *MIXED[1:]), ((0, 2, False), *MIXED[1:]), ((0, 2, 2, 2), *MIXED[1:]),
]
BAD_WORDS += [
    (MIXED[0], receiver, *MIXED[2:]) for receiver in [
        None, (1, (2, 3)), [1, (2, 3), True], (2, (2, 3), True), (True, (2, 3), True), (1, [2, 3], True),
        (1, (2, 4), True), (1, (2, 0), True), (1, (2, True), True), (1, (-1, 3), True), (1, (False, 3), True),
        (1, ("old", 3), True), (1, (2,), True), (1, (2, 3, 3), True), (1, False, True), (1, (2, 3), 1),
        (1, (2, 3), None), (1, (), True)]]
BAD_WORDS += [
    MIXED[:2] + (there, (0, 1)) for there in [
        None, ((0, 2),), [(1, 0), (0, 2)], [(0, 3), (0, 2)], [(0, 2)] * 4, [[0, 2]], [(0, -1)], [(2, 2)], [(True, 2)],
        [(0, True)], [(0, "2")], [(0,)], [(0, 2, 2)], [None], (0, 0, 0), [0, 2]]]
BAD_WORDS += [
    MIXED[:3] + (back,) for back in [
        None, [0, 1], (0,), (0, 1, 0), (2, 1), (-1, 1), (True, 1), (0, "1"), (0, None)]]


class Runs(unittest.TestCase):
    """Point 69."""

    def test_event_by_event(self):
        draw, found = random.Random(691), {}
        for link in SMALL + UNSOUND:
            for _ in range(250):
                letters = draw.choice([[0], [0, 1], [2, 3, 9]])
                words = some_words(link, draw, letters)
                given, events = some_events(link, words, draw, draw.choice([0, 2, 10, 40]), letters)
                later, marks, used = walk_words(link, words, given, events)
                due = [letter for kind, letter in marks if kind in ("right", "lost")]
                handed = [letter for kind, letter in marks if kind != "lost"]
                wrong = [kind for kind, _ in marks if kind != "right"]
                self.assertEqual(used, len(given))
                self.assertEqual(word_run(link, words, given, events), (later, due, handed, wrong))
                self.assertEqual(word_run(link, words, given + [7, 7], events), (later, due, handed, wrong))
                self.assertLessEqual(least_apart(due, handed), len(wrong))
                if given:
                    self.refused(link, words, given[:-1], events)
                for kind, _ in marks:
                    found[kind] = found.get(kind, 0) + 1
        self.assertGreater(min(found.values()), 100)
        self.assertEqual(sorted(found), ["lost", "made", "right", "twice"])

    def refused(self, link, words, given, events):
        expect(self, word_run, ["link", "words", "given", "events"], [link, words, given, events], InvalidWords, given)

    def test_one_that_cannot_come(self):
        draw, none = random.Random(692), 0
        for link in SMALL:
            for _ in range(100):
                words = some_words(link, draw, [0, 1])
                given, events = some_events(link, words, draw, 8, [0, 1])
                place = draw.randint(0, len(events))
                events.insert(place, draw.choice(all_word_events([0, 1, 2])))
                told = walk_words(link, words, given + [0, 0], events)
                args = [link, words, given + [0, 0], events]
                if told is None:
                    none += 1
                    expect(self, word_run, ["link", "words", "given", "events"], args, InvalidRun, events)
                else:
                    self.assertEqual(word_run(*args)[0], told[0])
        self.assertGreater(none, 200)

    def test_which_error_comes_first(self):
        link, words = (1, 1, 1, 1), ((0, 3, 0), (1, None, False), [], (1, 0))
        names = ["link", "words", "given", "events"]
        lacking = [("hear", 0), ("hear", 0)]
        given = []
        expect(self, word_run, names, [link, words, given, lacking], InvalidWords, given)
        given = [4]
        expect(self, word_run, names, [link, words, given, lacking], InvalidRun, lacking)
        other = [("hear", 1), ("hear", 0)]
        expect(self, word_run, names, [link, words, [], other], InvalidRun, other)

    def test_a_copy_of_the_letter_that_lay_there(self):
        """What bears the sender's bit and letter is as good as new, whoever put it there."""
        link, words = (2, 1, 2, 1), ((0, 4, 0), (1, None, False), [(0, 4), (0, 4)], (0, 0))
        events = [("bring", (0, 4)), ("bring", (0, 4)), ("hear", 0)]
        self.assertEqual(
            word_run(link, words, [4], events), (((1, 4, 0), (0, None, False), [], (0, 0)), [4], [4], []))
        self.assertEqual(word_harm(link, words), 0)
        lot = ((0, 4, 0), (1, (4, 1), False), [(0, 4)], (0, 0))
        self.assertEqual(word_run(link, lot, [], [("bring", (0, 4))])[1:], ([4], [4], []))
        done = ((0, 4, 0), (1, (4, 1), True), [(0, 4)], (0, 0))
        self.assertEqual(word_run(link, done, [], [("bring", (0, 4))])[1:], ([], [4], ["twice"]))
        # The next letter is the same one, but its copies bear the other bit.
        again = ((1, 4, 0), (0, None, False), [(0, 4), (0, 4)], (0, 0))
        self.assertEqual(word_run(link, again, [], [("bring", (0, 4)), ("bring", (0, 4))])[1:], ([], [], []))

    def test_other_letters_begin_anew(self):
        link, words = (3, 1, 3, 1), ((0, 4, 0), (1, (6, 2), False), [(0, 4), (0, 6), (1, 6)], (0, 0))
        told = word_run(link, words, [], [("bring", (0, 4)), ("bring", (0, 6))])
        self.assertEqual(told, (((0, 4, 0), (1, (6, 1), False), [(1, 6)], (0, 0)), [], [], []))
        told = word_run(link, words, [], [("bring", (1, 6)), ("bring", (0, 6))])
        self.assertEqual(told, (((0, 4, 0), (1, (6, 1), False), [(0, 4)], (0, 1)), [], [], []))

    def test_no_event_and_three_hundred(self):
        told = word_run(WIDE, MIXED, [], [])
        self.assertEqual(told, (MIXED, [], [], []))
        turn = [[("send",), ("bring", (bit, bit)), ("hear", bit)] for bit in (0, 1)]
        events = (turn[0] + turn[1]) * 50
        told = word_run((1, 1, 1, 1), REST, [1, 0] * 50, events)
        self.assertEqual(told, (REST, [0, 1] * 50, [0, 1] * 50, []))


class Harm(unittest.TestCase):
    """Point 70."""

    def test_all_runs_over_two_letters(self):
        for link in SMALL:
            found = most_wrong(link, (0, 1))
            for words in all_words(link, (0, 1)):
                self.assertEqual(word_harm(link, words), found[key(words)], (link, words))

    def test_all_runs_over_three_letters(self):
        for link in ((1, 1, 1, 1), (2, 1, 2, 1)):
            found = most_wrong(link, (0, 1, 2))
            for words in all_words(link, (0, 1, 2)):
                self.assertEqual(word_harm(link, words), found[key(words)])

    def test_the_greatest_lot(self):
        draw = random.Random(701)
        for _ in range(800):
            link = draw.choice([(4, 1, 5, 1), (6, 1, 6, 1), (3, 2, 4, 4)])
            words = some_words(link, draw, [0, 2, 5])
            (bit, letter, _), (other, lot, _), there, _ = words
            counts = {}
            for one in (0, 2, 5):
                many = there.count((1 - other, one)) + (lot[1] if lot and lot[0] == one else 0)
                if many and not (bit != other and one == letter):
                    counts[one] = many
            wanted = None
            for one, many in sorted(counts.items()):
                if wanted is None or many > wanted[1]:
                    wanted = (one, many)
            self.assertEqual(greatest_old(link, words), wanted)

    def test_edges(self):
        link = (4, 1, 4, 1)
        self.assertIsNone(greatest_old(link, REST))
        equal = ((0, 9, 0), (0, None, True), [(1, 3), (1, 3), (1, 8), (1, 8)], (0, 0))
        self.assertEqual(greatest_old(link, equal), (3, 2))
        self.assertEqual(greatest_old(link, equal[:1] + ((0, (8, 1), True),) + equal[2:]), (8, 3))
        # The sender's letter counts with bits that are alike, and not with others.
        self.assertEqual(greatest_old(link, ((0, 3, 0),) + equal[1:]), (3, 2))
        self.assertEqual(greatest_old(link, ((1, 3, 0),) + equal[1:]), (8, 2))
        self.assertIsNone(greatest_old(link, ((1, 3, 0), (0, (3, 2), False), [(0, 8), (1, 3)], (0, 0))))
        self.assertEqual(word_harm(link, ((0, 9, 0), (0, (8, 3), True), [(1, 8)], (0, 0))), 2)
        self.assertEqual(word_harm(link, ((0, 9, 0), (0, (8, 3), True), [(1, 7)], (0, 0))), 0)
        great = ((0, 9, BIG - 1), (0, (8, BIG - 1), False), [(1, 8)], (1, 0))
        self.assertEqual(word_harm((BIG,) * 4, great), 3)
        self.assertEqual(word_harm((BIG,) * 4, great[:2] + ([(1, 7)], (1, 0))), 1)


class Lists(unittest.TestCase):
    """Point 71."""

    def test_all_short_lists(self):
        lists = [list(one) for many in range(4) for one in itertools.product((0, 1, 2), repeat=many)]
        for due, handed in itertools.product(lists, lists):
            common = max(
                len(one) for many in range(4) for one in itertools.combinations(due, many)
                if one in set(itertools.combinations(handed, many)))
            least = len(due) + len(handed) - 2 * common
            self.assertEqual(least_apart(due, handed), least)
            self.check(due, handed, explained(due, handed), least)

    def check(self, due, handed, found, least):
        self.assertEqual([letter for kind, letter in found if kind != "made"], due)
        self.assertEqual([letter for kind, letter in found if kind != "lost"], handed)
        self.assertEqual(sum(kind in ("lost", "made") for kind, _ in found), least)
        self.assertTrue(all(kind in ("right", "lost", "made") for kind, _ in found))
        self.assertIs(is_explained(due, handed, found), True)

    def test_sixty_letters(self):
        draw = random.Random(711)
        for _ in range(20):
            due = [draw.randint(0, draw.choice([1, 9, BIG])) for _ in range(60)]
            handed = [letter for letter in due if draw.random() < 0.8]
            for _ in range(9):
                handed.insert(draw.randint(0, len(handed)), draw.randint(0, 9))
            self.check(due, handed[:60], explained(due, handed[:60]), least_apart(due, handed[:60]))
            self.assertEqual(least_apart(handed, due), least_apart(due, handed))
        self.assertEqual(least_apart(list(range(60)), list(range(60))), 0)
        self.assertEqual(least_apart([1] * 60, [2] * 60), 120)
        self.assertEqual([least_apart([], []), explained([], [])], [0, []])
        self.assertEqual(explained([5, 6], []), [("lost", 5), ("lost", 6)])
        self.assertEqual(explained([], [5, 6]), [("made", 5), ("made", 6)])

    def test_all_that_explain_or_do_not(self):
        told = [(kind, letter) for kind in ("right", "lost", "made") for letter in (0, 1)]
        rows = [list(row) for many in range(5) for row in itertools.product(told, repeat=many)]
        for due, handed in (([], []), ([0], []), ([0, 1], [1]), ([0, 1], [1, 0]), ([0, 0], [0]), ([1, 0], [1, 0])):
            least, many = least_apart(due, handed), 0
            for row in rows:
                wanted = (
                    [letter for kind, letter in row if kind != "made"] == due
                    and [letter for kind, letter in row if kind != "lost"] == handed
                    and sum(kind != "right" for kind, _ in row) == least)
                self.assertIs(is_explained(due, handed, row), wanted)
                many += wanted
            self.assertGreater(many, 0)
        for value in ODD_VALUES + [
                [("right", True)], [("right", 1, 1)], [["right", 1]], (("right", 1),), [("twice", 1)], [("right", "1")],
                [("lost", 1), ("made", 1)], [(True, 1)], [("right", 1), None]]:
            self.assertIs(is_explained([1], [1], value), False)
        self.assertIs(is_explained([1], [1], [("right", 1)]), True)


class Worst(unittest.TestCase):
    """Point 72."""

    def check(self, link, words):
        given, events = word_worst(link, words)
        later, marks, used = walk_words(link, words, given, events)
        wrong = [kind for kind, _ in marks if kind != "right"]
        self.assertEqual(len(wrong), word_harm(link, words))
        self.assertEqual(used, len(given))
        self.assertLessEqual(len(events), 300)
        if wrong:
            _, marks, _ = walk_words(link, words, given, events[:-1])
            self.assertEqual(len([kind for kind, _ in marks if kind != "right"]), len(wrong) - 1)
        else:
            self.assertEqual((given, events), ([], []))
        self.assertIs(is_word_worst(link, words, (given, events)), True)
        self.assertFalse(shares_lists(given, events, words))
        return later, given, events

    def test_all_contents_of_small_links(self):
        for link in SMALL[:5]:
            for words in all_words(link, (0, 1)):
                self.check(link, words)

    def test_links_of_numbers_to_twenty(self):
        draw, found = random.Random(721), {}
        for _ in range(400):
            c, d = draw.choice([1, 2, 20, 20, draw.randint(1, 20)]), draw.choice([1, 20, draw.randint(1, 20)])
            link = (c, d, draw.choice([c, 20, draw.randint(c, 20)]), draw.choice([d, 20, draw.randint(d, 20)]))
            words = some_words(link, draw, draw.choice([[3], [0, 1], [5, 6, 10 ** 30]]))
            many = word_harm(link, words)
            self.check(link, words)
            found[many] = found.get(many, 0) + 1
        self.assertEqual(sorted(found), [0, 1, 2, 3])
        full = ((0, 1, 0), (0, (1, 19), False), [(1, 1)] * 20, (20, 0))
        self.assertEqual(word_harm((20,) * 4, full), 3)
        self.check((20,) * 4, full)

    def test_further_events_and_letters(self):
        draw, found = random.Random(722), {True: 0, False: 0}
        for link in SMALL:
            for _ in range(100):
                words = some_words(link, draw, [0, 1])
                later, given, events = self.check(link, words)
                more, further = some_events(link, later, draw, draw.randint(0, 8), list(range(6)))
                self.assertIs(is_word_worst(link, words, (given + more, events + further)), True)
                self.assertIs(is_word_worst(link, words, (given + more + [3], events + further)), True)
                other, run = some_events(link, words, draw, 25, [0, 1])
                marks = walk_words(link, words, other, run)[1]
                wanted = len([kind for kind, _ in marks if kind != "right"]) == word_harm(link, words)
                self.assertIs(is_word_worst(link, words, (other, run)), wanted)
                found[wanted] += 1
                if given:
                    self.assertIs(is_word_worst(link, words, (given[:-1], events)), False)
                if events:
                    self.assertIs(is_word_worst(link, words, (given, events[:-1])), False)
                self.assertIs(is_word_worst(link, words, [given, events]), False)
        self.assertGreater(min(found.values()), 20)


BAD_LETTERS = [value for value in ODD_VALUES if value not in ([], [1, 1, 1, 1])] + [
    (1,), [-1], [True], ["1"], [[1]], [1, None], [(0, 1)], {1: 1},
]
BAD_WORD_RUNS = [value for value in ODD_VALUES if value != []] + [
    (("send",),), [["send"]], [("send", 0)], [("drop", "new")], [("drop", 0)], [("drop", [0, 2])], [("drop", (0, -1))],
    [("drop", (2, 0))], [("bring", (True, 2))], [("bring", (0, True))], [("bring", (0, 2, 2))], [("bring",)],
    [("hear", 2)], [("hear", True)], [("miss", (0, 2))], [("hear", 1, 1)], [("send",), None], [("double", (0, 2))],
    [("hear", 0)], [("bring", (0, 9))], [("drop", (0, 2))] * 2, [("send",)],
]


class Refused(unittest.TestCase):
    """Points 2, 5, 68 to 72."""

    def test_errors(self):
        links, words = (InvalidLink, BAD_LINKS), (InvalidWords, BAD_WORDS)
        letters, runs = (InvalidWords, BAD_LETTERS), (InvalidRun, BAD_WORD_RUNS)
        names = ["link", "words", "given", "events"]
        check_errors(self, is_word_contents, ["link", "value"], [WIDE, None], [links, None])
        for function in (word_events, greatest_old, word_harm, word_worst):
            check_errors(self, function, names[:2], [WIDE, MIXED], [links, words])
        check_errors(
            self, word_run, names, [WIDE, MIXED, [3, 4], [("bring", (0, 2))]], [links, words, letters, runs])
        check_errors(self, is_word_worst, names[:2] + ["value"], [WIDE, MIXED, None], [links, words, None])
        for function in (least_apart, explained):
            check_errors(self, function, ["due", "handed"], [[1], [2, 2]], [letters, letters])
        check_errors(self, is_explained, ["due", "handed", "value"], [[1], [2], None], [letters, letters, None])

    def test_a_sound_link_is_wanted_behind_all_other_errors(self):
        for link in UNSOUND:
            for function in (word_harm, word_worst):
                expect(self, function, ["link", "words"], [link, REST], Unlike, link)
                expect(self, function, ["link", "words"], [link, None], InvalidWords, None)
            names = ["link", "words", "value"]
            expect(self, is_word_worst, names, [link, REST, ([], [])], Unlike, link)
            expect(self, is_word_worst, names, [link, None, ([], [])], InvalidWords, None)
            self.assertEqual(word_events(link, REST), [("send",)])
            self.assertIsNone(greatest_old(link, REST))
            self.assertEqual(word_run(link, REST, [], [("send",)])[0][2], [(0, 0)])

    def test_what_is_almost_a_worst_run(self):
        given, events = word_worst(LINK, WORDS)
        self.assertEqual(len(given), 1)
        self.assertIs(is_word_worst(LINK, WORDS, (given, events)), True)
        for letters in ([True], [False, 1], tuple(given), ["1"], [-1], [9, None], []):
            self.assertIs(is_word_worst(LINK, WORDS, (letters, events)), False)
        for event in (("hear", 0), ("hear", 1), ("bring", (0, 9)), ("send", 0), ("double", 1)):
            self.assertIs(is_word_worst(LINK, WORDS, (given, events + [event])), False)
        self.assertIs(is_word_worst(LINK, WORDS, (given, events + [("send",)])), True)

    def test_what_is_no_event_where_much_is_possible(self):
        words = ((0, 2, 0), (1, None, False), [(0, 2)], (1, 1))
        for event in (("send", 0), ("double", 1), ("turn", 0), ("bring", 0), ("hear", (0, 2)), ("send", (0, 2))):
            run = [event]
            expect(self, word_run, ["link", "words", "given", "events"], [WIDE, words, [], run], InvalidRun, run)

    def test_any_value_is_judged(self):
        for value in ODD_VALUES + [([], None), (None, []), ([True], []), ([], [("send",)]), ([], [], []), ((), ())]:
            self.assertIs(is_word_worst(WIDE, MIXED, value), False)
        for value in BAD_WORD_RUNS:
            self.assertIs(is_word_worst(WIDE, MIXED, ([], value)), False)

    def test_new_lists(self):
        for function in (word_events, greatest_old, word_harm, word_worst):
            check_unchanged(self, function, WIDE, MIXED)
            check_unchanged(self, function, LINK, WORDS)
        check_unchanged(self, word_run, WIDE, MIXED, [3], [])
        check_unchanged(self, word_run, LINK, WORDS, [9], [("bring", (0, 7)), ("bring", (0, 7)), ("hear", 0)])
        check_unchanged(self, is_word_worst, LINK, WORDS, word_worst(LINK, WORDS))
        for function in (least_apart, explained):
            check_unchanged(self, function, [1, 2, 2], [2, 2, 1])
        check_unchanged(self, is_explained, [1, 2], [2], explained([1, 2], [2]))


if __name__ == "__main__":
    unittest.main()
