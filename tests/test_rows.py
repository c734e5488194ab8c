import itertools
import random
import unittest

from healwires.errors import InvalidContents, InvalidNumber, InvalidRun, InvalidWeb
from healwires.harm import harm
from healwires.rows import handed_along, how_many_given, is_row, row_faults, still_held
from healwires.webs import web_wrong_steps
from model import (
    BAD_WEBS, ODD_VALUES, all_contents, check_errors, check_unchanged, some_web_run, step,
)

BIG = 10 ** 29
ONE, REST = (1, 1, 1, 1), ((0, 0), (1, None, False), (0, 0, 0), (0, 0))
LINKS = [(1, 1, 1, 1), (1, 1, 2, 1), (2, 1, 2, 1), (1, 2, 1, 2), (2, 2, 2, 2), (1, 1, 2, 2)]
UNSOUND = [(2, 1, 1, 1), (1, 2, 1, 1), (3, 2, 2, 2)]
# Ways 0 to 5: 0 to 1, 0 to 2, 1 to 0, 1 to 2, 2 to 0, 2 to 3.
WEB = (4, [(0, 1, ONE), (0, 2, ONE), (1, 0, ONE), (1, 2, ONE), (2, 0, ONE), (2, 3, ONE)])
HELD = [REST] * 6
TURN = [[("send",), ("bring", "new"), ("hear", bit)] for bit in (0, 1)]


def turns(way, many):
    """So many whole turns of a way."""
    return [(way, event) for number in range(many) for event in TURN[number % 2]]


def along(web, contents, row, run):
    """(letters given, letters out of each way, letters that turns have, letters kept, contents behind) by single steps.

    The letters of each way's turns are told as a list, that which goes on the last one.
    """
    now = list(contents)
    have = {way: [None] for way in row}
    out = {way: [] for way in row}
    taken = {way: 0 for way in row}
    for way, event in run:
        told = step(web[1][way][2], now[way], event)
        now[way] = told[0]
        if way not in row:
            continue
        if told[3]:
            out[way].append(have[way][-1] if event[1] == "new" else None)
        if told[2] and way == row[0]:
            have[way].append(len(have[way]) - 1)
        elif told[2]:
            source = out[row[row.index(way) - 1]]
            if taken[way] < len(source):
                have[way].append(source[taken[way]])
                taken[way] += 1
            else:
                have[way].append(None)
    kept = {way: out[row[row.index(way) - 1]][taken[way]:] for way in row[1:]}
    return (len(have[row[0]]) - 1, out, {way: have[way][-1] for way in row}, kept, now)


def drawn(seed, many, links):
    """Webs in which a row of some ways lies, with other ways beside it, contents and a run."""
    draw, known = random.Random(seed), {link: all_contents(link) for link in links}
    for _ in range(many):
        hosts = draw.sample(range(6), draw.randint(2, 5))
        pairs = list(zip(hosts, hosts[1:]))
        others = [pair for pair in itertools.permutations(range(6), 2) if pair not in pairs]
        pairs = sorted(pairs + draw.sample(others, draw.randint(0, 2)))
        web = (6, [(one, other, draw.choice(links)) for one, other in pairs])
        row = [pairs.index(pair) for pair in zip(hosts, hosts[1:])]
        contents = [
            REST if draw.random() < 0.5 else draw.choice(known[link]) for _, _, link in web[1]]
        yield web, contents, row, some_web_run(web, contents, draw, draw.choice([5, 60, 150, 300]))


class Rows(unittest.TestCase):
    """Points 65, 66 and 67."""

    def test_the_examples_of_the_document(self):
        web, right = (3, [(0, 1, ONE), (1, 2, ONE)]), [REST] * 2
        first = [(0, ("send",)), (0, ("bring", "new")), (0, ("hear", 0)), (0, ("send",)), (0, ("bring", "new")),
                 (0, ("hear", 1))]
        second = [(1, ("send",)), (1, ("bring", "new")), (1, ("hear", 0)), (1, ("send",)), (1, ("bring", "new")),
                  (1, ("hear", 1)), (1, ("send",)), (1, ("bring", "new"))]
        row = [0, 1]
        self.assertEqual(
            [is_row(web, row), is_row(web, [1, 0]), how_many_given(web, right, row, first),
             handed_along(web, right, row, first + second)],
            [True, False, 2, [None, None, 0]])
        self.assertEqual(
            [row_faults(web, right, row, first + second), still_held(web, right, row, first + second),
             still_held(web, right, row, first)],
            [(0, 0), [1], [0, 1]])

    def test_what_is_a_row(self):
        rows = [list(row) for many in range(1, 5) for row in itertools.product(range(6), repeat=many)]
        for row in rows:
            hosts = [WEB[1][row[0]][0]] + [WEB[1][way][1] for way in row]
            led = all(WEB[1][way][1] == WEB[1][later][0] for way, later in zip(row, row[1:]))
            self.assertIs(is_row(WEB, row), led and len(set(hosts)) == len(hosts))
        self.assertEqual(
            [row for row in rows if is_row(WEB, row)],
            [[0], [1], [2], [3], [4], [5], [0, 3], [1, 5], [2, 1], [3, 4], [3, 5], [4, 0], [0, 3, 5], [2, 1, 5]])
        for value in ODD_VALUES + [(0,), [6], [-1], [True], [False, 3], ["0"], [[0]], [0, 3, 4]]:
            self.assertIs(is_row(WEB, value), False)
        self.assertIs(is_row((2, []), []), False)
        self.assertIs(is_row((2, []), [0]), False)

    def test_letter_by_letter(self):
        letters, held, wrongs = 0, 0, 0
        for web, contents, row, run in drawn(651, 500, LINKS + UNSOUND):
            given, out, have, kept, now = along(web, contents, row, run)
            self.assertEqual(how_many_given(web, contents, row, run), given)
            found = handed_along(web, contents, row, run)
            self.assertEqual(found, out[row[-1]])
            told = [letter for letter in found if letter is not None]
            self.assertEqual(told, sorted(told))
            missing = set(range(max(told))) - set(told) if told else []
            twice = len(told) - len(set(told))
            self.assertEqual(row_faults(web, contents, row, run), (len(missing), twice))
            wanted = [have[way] for way in row if not now[way][1][2]]
            wanted += [letter for one in kept.values() for letter in one]
            wanted = sorted(letter for letter in wanted if letter is not None)
            self.assertEqual(still_held(web, contents, row, run), wanted)
            kinds = [wrong for way, wrong in web_wrong_steps(web, contents, run) if way in row]
            self.assertLessEqual(len(missing), kinds.count("lost"))
            self.assertLessEqual(twice, kinds.count("twice"))
            if not kinds:
                self.assertEqual(sorted(told + wanted), list(range(given)))
            if all(link in LINKS for _, _, link in web[1]):
                self.assertLessEqual(
                    len(missing) + twice, sum(harm(web[1][way][2], contents[way]) for way in row))
            letters, held = letters + len(told), held + len(wanted)
            wrongs += len(missing) + twice
        self.assertGreater(min(letters, held), 300)
        self.assertGreater(wrongs, 20)

    def test_a_row_of_one_way(self):
        run = turns(0, 5) + [(0, ("send",)), (0, ("bring", "new"))]
        self.assertEqual(how_many_given(WEB, HELD, [0], run), 5)
        self.assertEqual(handed_along(WEB, HELD, [0], run), [None, 0, 1, 2, 3, 4])
        self.assertEqual(still_held(WEB, HELD, [0], run), [])
        self.assertEqual(still_held(WEB, HELD, [0], run[:-1]), [4])
        self.assertEqual(row_faults(WEB, HELD, [0], run), (0, 0))

    def test_nothing_kept(self):
        """What the other hosts have at first, and what they send without being handed anything, is no letter."""
        run = turns(3, 3) + turns(0, 3) + [(3, event) for event in TURN[1] + TURN[0] + TURN[1] + TURN[0]]
        self.assertEqual(handed_along(WEB, HELD, [0, 3], run), [None] * 5 + [0, 1])
        self.assertEqual(still_held(WEB, HELD, [0, 3], run), [2])
        self.assertEqual(handed_along(WEB, HELD, [0, 3], []), [])
        self.assertEqual(how_many_given(WEB, HELD, [0, 3], turns(3, 4)), 0)
        self.assertEqual(handed_along(WEB, HELD, [0, 3], turns(0, 4)), [])
        self.assertEqual(still_held(WEB, HELD, [0, 3], turns(0, 4)), [0, 1, 2, 3])

    def test_a_letter_lost(self):
        web, held = (2, [(0, 1, ONE)]), [((0, 0), (0, None, False), (0, 0, 1), (1, 0))]
        run = [(0, ("hear", 0)), (0, ("bring", "one")), (0, ("hear", 1)), (0, ("send",)), (0, ("bring", "new"))]
        self.assertEqual(web_wrong_steps(web, held, run), [(0, "lost"), (0, "made"), (0, "lost")])
        self.assertEqual(handed_along(web, held, [0], run), [None, 1])
        self.assertEqual(row_faults(web, held, [0], run), (1, 0))
        self.assertEqual([still_held(web, held, [0], run[:many]) for many in range(6)], [[], [0], [0], [1], [1], []])
        self.assertEqual(row_faults(web, held, [0], run[:2]), (0, 0))

    def test_a_letter_twice(self):
        web = (2, [(0, 1, (2, 1, 1, 1))])
        send, bring, old = (0, ("send",)), (0, ("bring", "new")), (0, ("bring", "zero"))
        run = [send, send, bring, (0, ("hear", 0)), send, bring, old, send, bring]
        self.assertEqual(web_wrong_steps(web, [REST], run), [(0, "made"), (0, "twice")])
        self.assertEqual(handed_along(web, [REST], [0], run), [None, 0, None, 0])
        self.assertEqual(row_faults(web, [REST], [0], run), (0, 1))
        self.assertEqual(still_held(web, [REST], [0], run), [])

    def test_sixty_ways_and_four_hundred_events(self):
        ways = [(host, host + 1, (2, 2, 2, 2)) for host in range(39)] + [(39, host, ONE) for host in range(21)]
        web, contents = (40, ways), [REST] * 60
        run = some_web_run(web, contents, random.Random(652), 400)
        row = list(range(39))
        self.assertIs(is_row(web, row), True)
        self.assertIs(is_row(web, row + [39]), False)
        given, out, *_ = along(web, contents, row, run)
        self.assertEqual(how_many_given(web, contents, row, run), given)
        self.assertEqual(handed_along(web, contents, row, run), out[38])
        self.assertEqual(row_faults(web, contents, row, run), (0, 0))


class Refused(unittest.TestCase):
    """Points 2, 5, 65 to 67."""

    def test_errors(self):
        run, names = turns(0, 2), ["web", "contents", "row", "run"]
        webs = (InvalidWeb, BAD_WEBS)
        held = (InvalidContents, ODD_VALUES + [HELD[:5], HELD + [REST], tuple(HELD), [None] * 6])
        rows = (InvalidNumber, ODD_VALUES + [(0,), [6], [0, 1], [True], [0, 3, 4], [3, 0]])
        runs = (InvalidRun, [value for value in ODD_VALUES if value != []] + [
            tuple(run), [(6, ("send",))], [(True, ("send",))], run + [(0, ("hear", 0))], [(3, ("bring", "new"))]])
        check_errors(self, is_row, ["web", "value"], [WEB, None], [webs, None])
        for function in (how_many_given, handed_along, row_faults, still_held):
            check_errors(self, function, names, [WEB, HELD, [0, 3], run], [webs, held, rows, runs])

    def test_links_that_are_not_sound_are_taken(self):
        web = (2, [(0, 1, (2, 1, 1, 1))])
        run = [(0, ("send",)), (0, ("send",)), (0, ("bring", "new")), (0, ("hear", 0)), (0, ("send",))]
        self.assertEqual(handed_along(web, [REST], [0], run), [None])
        self.assertEqual(still_held(web, [REST], [0], run), [0])
        self.assertEqual(row_faults(web, [REST], [0], run + [(0, ("bring", "new"))]), (0, 0))

    def test_new_lists(self):
        run = turns(0, 3) + turns(3, 2)
        for function in (how_many_given, handed_along, row_faults, still_held):
            check_unchanged(self, function, WEB, HELD, [0, 3], run)
        check_unchanged(self, is_row, WEB, [0, 3])


if __name__ == "__main__":
    unittest.main()
