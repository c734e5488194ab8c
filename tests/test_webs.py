import itertools
import random
import unittest

from healwires.contents import empty
from healwires.errors import InvalidContents, InvalidLink, InvalidNumber, InvalidRun, InvalidWeb, Unlike
from healwires.harm import harm
from healwires.mending import cost_of, mended, mending_cost
from healwires.runs import after, wrong_steps
from healwires.webs import (
    are_web_contents, are_web_mendings, by_ways, can_go_web, harm_at, is_web, part_of, ways_by_harm, web_after,
    web_harm, web_mending_cost, web_mendings, web_wrong_steps,
)
from healwires.worst import worst_run
from model import (
    BAD_BITS, BAD_COUNTS, BAD_EVENTS, BAD_WEBS, ODD_VALUES, all_events, all_mendings, check_errors,
    check_unchanged, expect, harms, is_whole_number, price_of, shares_lists, some_contents_of, some_sound_links,
    some_web, some_web_run, step,
)
import model

BIG = 10 ** 29
ONE, LINK = (1, 1, 1, 1), (3, 2, 4, 4)
SOUND = [(1, 1, 1, 1), (1, 1, 2, 2), (2, 1, 2, 1), (2, 1, 3, 2), (1, 2, 1, 2), (2, 2, 2, 2), (1, 1, 3, 3)]
UNSOUND = [(2, 1, 1, 1), (1, 2, 1, 1), (3, 2, 2, 2)]
REST = ((0, 0), (1, None, False), (0, 0, 0), (0, 0))
WEB = (3, [(0, 1, ONE), (0, 2, LINK), (1, 0, (2, 1, 2, 1)), (2, 1, ONE)])
HELD = [
    REST, ((0, 2), (1, ("old", 3), True), (1, 0, 2), (0, 1)), ((0, 0), (0, ("old", 1), False), (0, 0, 1), (1, 0)),
    ((0, 0), (0, None, False), (0, 0, 0), (0, 0)),
]
RUN = [(1, ("bring", "one")), (0, ("send",)), (2, ("hear", 0)), (0, ("bring", "new"))]


def contents_of(web, draw):
    return [some_contents_of(link, draw) for _, _, link in web[1]]


def webs(seed, many, links):
    draw = random.Random(seed)
    for _ in range(many):
        web = some_web(draw, links)
        yield web, contents_of(web, draw), draw


class Webs(unittest.TestCase):
    """Points 61 and 62."""

    def test_the_examples_of_the_document(self):
        one = (1, 1, 1, 1)
        web, right = (3, [(0, 1, one), (1, 2, one)]), [empty(one, 0), empty(one, 0)]
        odd = [right[0], ((0, 0), (0, None, False), (0, 0, 0), (0, 0))]
        self.assertEqual(
            [is_web(web), is_web((2, [(0, 1, one), (0, 1, one)])), are_web_contents(web, odd), web_harm(web, odd),
             harm_at(web, odd, 2), ways_by_harm(web, odd)],
            [True, False, True, 1, 1, [1, 1, 0, 0]])
        self.assertEqual(
            [web_mending_cost(web, odd, 0), web_mendings(web, odd, 0), web_mending_cost(web, odd, 1)],
            [1, [([], (0, 0, 0, 0)), (["turn"], (0, 0, 0, 0))], 0])
        mixed = [(1, ("send",)), (0, ("send",)), (1, ("bring", "new")), (1, ("hear", 0))]
        self.assertEqual(
            [by_ways(web, odd, mixed)[0], part_of(web, odd, mixed, 0), web_wrong_steps(web, odd, mixed),
             web_after(web, odd, mixed)[1], can_go_web(web, odd, mixed[2:])],
            [(0, ("send",)), [("send",)], [(1, "lost")], ((1, 0), (0, None, False), (0, 0, 0), (0, 0)), False])

    def test_what_is_a_web(self):
        for web, contents, _ in webs(611, 200, SOUND + UNSOUND + [(BIG, 1, BIG, BIG)]):
            self.assertIs(is_web(web), True)
            self.assertIs(are_web_contents(web, contents), True)
            self.assertIs(can_go_web(web, contents, []), True)
            self.assertEqual(web_after(web, contents, []), contents)
            if len(web[1]) > 1:
                self.assertIs(is_web((web[0], web[1][::-1])), False)
                self.assertIs(is_web((web[0], web[1] + web[1][-1:])), False)
                self.assertIs(are_web_contents(web, contents[:-1]), False)
            self.assertIs(are_web_contents(web, contents + [REST]), False)
            self.assertIs(are_web_contents(web, tuple(contents)), False)
        for value in BAD_WEBS:
            self.assertIs(is_web(value), False)
        for web in ((1, []), (2, [(0, 1, ONE), (1, 0, ONE)]), (BIG, [(BIG - 2, BIG - 1, LINK)])):
            self.assertIs(is_web(web), True)
        self.assertIs(is_web((BIG, [(BIG, 1, LINK)])), False)

    def test_web_runs_are_the_runs_of_their_ways(self):
        wrongs = 0
        for web, contents, draw in webs(612, 300, SOUND + UNSOUND):
            run = some_web_run(web, contents, draw, draw.choice([0, 3, 30, 80]))
            self.assertIs(can_go_web(web, contents, run), True)
            now, wrong = list(contents), []
            for number, event in run:
                told = step(web[1][number][2], now[number], event)
                now[number] = told[0]
                wrong += [(number, told[1])] if told[1] else []
            self.assertEqual(web_after(web, contents, run), now)
            self.assertEqual(web_wrong_steps(web, contents, run), wrong)
            wrongs += len(wrong)
            apart = by_ways(web, contents, run)
            self.assertEqual([number for number, _ in apart], sorted(number for number, _ in run))
            self.assertEqual(web_after(web, contents, apart), now)
            for number, (_, _, link) in enumerate(web[1]):
                part = part_of(web, contents, run, number)
                self.assertEqual(part, [event for way, event in run if way == number])
                self.assertEqual([event for way, event in apart if way == number], part)
                self.assertEqual(after(link, contents[number], part), now[number])
                self.assertEqual(
                    wrong_steps(link, contents[number], part), [one for way, one in wrong if way == number])
            for place in range(len(run) - 1):
                if run[place][0] != run[place + 1][0]:
                    other = run[:place] + [run[place + 1], run[place]] + run[place + 2:]
                    self.assertEqual(web_after(web, contents, other), now)
                    break
        self.assertGreater(wrongs, 200)

    def test_what_cannot_go(self):
        none = 0
        for web, contents, draw in webs(613, 200, SOUND):
            if not web[1]:
                self.assertIs(can_go_web(web, contents, [(0, ("send",))]), False)
                continue
            run = some_web_run(web, contents, draw, 12)
            at = draw.randrange(len(run) + 1)
            run.insert(at, (draw.randrange(len(web[1])), draw.choice(all_events())))
            now, goes = list(contents), True
            for number, event in run:
                told = step(web[1][number][2], now[number], event)
                if told is None:
                    goes = False
                    break
                now[number] = told[0]
            self.assertIs(can_go_web(web, contents, run), goes)
            none += not goes
            self.assertIs(can_go_web(web, contents, [(len(web[1]), ("send",))]), False)
        self.assertGreater(none, 50)

    def test_forty_hosts_sixty_ways_and_four_hundred_events(self):
        draw = random.Random(614)
        links = some_sound_links(draw)
        pairs = sorted(draw.sample(list(itertools.permutations(range(40), 2)), 60))
        web = (40, [(one, other, draw.choice([next(links), (2, 2, 2, 2)])) for one, other in pairs])
        contents = contents_of(web, draw)
        run = some_web_run(web, contents, draw, 400)
        self.assertIs(can_go_web(web, contents, run), True)
        self.assertEqual(web_after(web, contents, run), web_after(web, contents, by_ways(web, contents, run)))
        many = web_harm(web, contents)
        self.assertEqual(many, sum(harm_at(web, contents, host) for host in range(40)))
        for most in (0, 1, many // 2, many - 1, many, many + 5, BIG):
            found = web_mendings(web, contents, most)
            self.assertIs(are_web_mendings(web, contents, most, found), True)


class Harm(unittest.TestCase):
    """Point 63."""

    def test_sums(self):
        for web, contents, _ in webs(631, 200, SOUND + [(BIG, BIG, BIG, BIG)]):
            found = [harm(way[2], one) for way, one in zip(web[1], contents)]
            self.assertEqual(web_harm(web, contents), sum(found))
            self.assertEqual(ways_by_harm(web, contents), [found.count(many) for many in range(4)])
            for host in [host for host in (0, 1, 2, 3, 4, web[0] - 1) if host < web[0]]:
                wanted = sum(many for way, many in zip(web[1], found) if way[1] == host)
                self.assertEqual(harm_at(web, contents, host), wanted)

    def test_as_many_wrong_steps_come(self):
        for web, contents, draw in webs(632, 60, SOUND):
            run = []
            for number, (_, _, link) in enumerate(web[1]):
                far = worst_run(link, contents[number])
                run += [(number, event) for events, many in far for _ in range(many) for event in events]
            self.assertEqual(len(web_wrong_steps(web, contents, run)), web_harm(web, contents))
            drawn = some_web_run(web, contents, draw, 60)
            self.assertLessEqual(len(web_wrong_steps(web, contents, drawn)), web_harm(web, contents))


class Mending(unittest.TestCase):
    """Point 64."""

    def test_all_mendings_of_all_ways(self):
        known = {link: harms(link) for link in SOUND[:5]}
        for web, contents, draw in webs(641, 150, SOUND[:5]):
            contents = [draw.choice(list(known[way[2]])) for way in web[1]]
            told = []
            for (_, _, link), one in zip(web[1], contents):
                costs = {}
                for mending in all_mendings(one, 4):
                    many = known[link][model.mended(one, mending)]
                    costs[many] = min(costs.get(many, 99), price_of(mending))
                told.append(sorted(costs.items()))
            rows = [
                (sum(many for many, _ in row), sum(cost for _, cost in row)) for row in itertools.product(*told)]
            for most in range(3 * len(web[1]) + 2):
                least = min(cost for many, cost in rows if many <= most)
                self.assertEqual(web_mending_cost(web, contents, most), least)
                found = web_mendings(web, contents, most)
                self.assertEqual(sum(price_of(mending) for mending in found), least)
                behind = [model.mended(one, mending) for one, mending in zip(contents, found)]
                self.assertLessEqual(sum(known[way[2]][one] for way, one in zip(web[1], behind)), most)
                self.assertIs(are_web_mendings(web, contents, most, found), True)

    def test_all_lists_of_mendings_are_judged(self):
        draw, found = random.Random(642), {True: 0, False: 0}
        web = (3, [(0, 1, ONE), (1, 0, (1, 1, 2, 1))])
        told = [harms(way[2]) for way in web[1]]
        for _ in range(25):
            contents = [draw.choice(list(one)) for one in told]
            rows = list(itertools.product(*[all_mendings(one, 3) for one in contents]))
            for most in range(4):
                least = web_mending_cost(web, contents, most)
                for row in draw.sample(rows, min(300, len(rows))) + [web_mendings(web, contents, most)]:
                    many = sum(
                        harms_of_one[model.mended(one, mending)]
                        for harms_of_one, one, mending in zip(told, contents, row))
                    wanted = many <= most and sum(price_of(mending) for mending in row) == least
                    self.assertIs(are_web_mendings(web, contents, most, list(row)), wanted)
                    found[wanted] += 1
        self.assertGreater(min(found.values()), 100)

    def test_one_way_costs_what_it_costs_alone(self):
        draw = random.Random(643)
        links = some_sound_links(draw)
        for _ in range(60):
            link = next(links)
            contents = some_contents_of(link, draw)
            for most in range(5):
                web = (2, [(1, 0, link)])
                self.assertEqual(web_mending_cost(web, [contents], most), mending_cost(link, contents, most))
                mending = web_mendings(web, [contents], most)[0]
                self.assertEqual(cost_of(link, contents, mending), mending_cost(link, contents, most))
                self.assertLessEqual(harm(link, mended(link, contents, mending)), most)

    def test_edges(self):
        nothing = ([], (0, 0, 0, 0))
        self.assertEqual([web_mending_cost((4, []), [], most) for most in (0, 7)], [0, 0])
        self.assertEqual(web_mendings((4, []), [], 0), [])
        self.assertIs(are_web_mendings((4, []), [], 0, []), True)
        self.assertEqual([web_harm((1, []), []), harm_at((1, []), [], 0), ways_by_harm((1, []), [])], [0, 0, [0] * 4])
        for most in (web_harm(WEB, HELD), web_harm(WEB, HELD) + 1, BIG):
            self.assertEqual(web_mending_cost(WEB, HELD, most), 0)
            self.assertEqual(web_mendings(WEB, HELD, most), [nothing] * 4)
        self.assertGreater(web_mending_cost(WEB, HELD, web_harm(WEB, HELD) - 1), 0)
        for value in ODD_VALUES + [[nothing] * 3, [nothing] * 5, (nothing,) * 4, [nothing, nothing, nothing, None]]:
            self.assertIs(are_web_mendings(WEB, HELD, BIG, value), False)


BAD_HELD = ODD_VALUES + [
    HELD[:3], HELD + HELD[:1], tuple(HELD), HELD[:3] + [None], [HELD[1]] + HELD[1:], [list(REST)] + HELD[1:],
    HELD[:2] + [((0, 1), (0, None, False), (0, 0, 0), (0, 0))] + HELD[3:],
]
BAD_WEB_RUNS = [value for value in ODD_VALUES if value != []] + [
    tuple(RUN), [[0, ("send",)]], [(0, ("send",), 1)], [(4, ("send",))], [(-1, ("send",))], [(True, ("send",))],
    [("0", ("send",))], [(0, ["send"])], [(0, ("hear", True))], [("send",)], [(0, ("hear", 0))],
    RUN + [(0, ("hear", 1))],
    [(0, ("send",)), (0, ("send",))], [([("send",)], 1)],
]


class Refused(unittest.TestCase):
    """Points 2, 5, 61 to 64."""

    def test_errors(self):
        web, contents = (InvalidWeb, BAD_WEBS), (InvalidContents, BAD_HELD)
        run, counts = (InvalidRun, BAD_WEB_RUNS), (InvalidNumber, BAD_COUNTS)
        names = ["web", "contents", "run", "number"]
        check_errors(self, are_web_contents, ["web", "value"], [WEB, None], [web, None])
        check_errors(self, can_go_web, names[:2] + ["value"], [WEB, HELD, None], [web, contents, None])
        for function in (web_after, web_wrong_steps, by_ways):
            check_errors(self, function, names[:3], [WEB, HELD, RUN], [web, contents, run])
        check_errors(
            self, part_of, names, [WEB, HELD, RUN, 3],
            [web, contents, run, (InvalidNumber, BAD_COUNTS + [4, 5, BIG])])
        for function in (web_harm, ways_by_harm):
            check_errors(self, function, names[:2], [WEB, HELD], [web, contents])
        check_errors(
            self, harm_at, names[:2] + ["host"], [WEB, HELD, 2],
            [web, contents, (InvalidNumber, BAD_COUNTS + [3, BIG])])
        for function in (web_mending_cost, web_mendings):
            check_errors(self, function, names[:2] + ["most"], [WEB, HELD, 1], [web, contents, counts])
        check_errors(
            self, are_web_mendings, names[:2] + ["most", "value"], [WEB, HELD, 1, None], [web, contents, counts, None])
        self.assertIs(is_web(value=WEB), True)

    def test_any_value_is_judged(self):
        for value in BAD_HELD:
            self.assertIs(are_web_contents(WEB, value), False)
        for value in BAD_WEB_RUNS + [[(0, value)] for value in BAD_EVENTS] + [
                [(value, ("send",))] for value in BAD_BITS if not is_whole_number(value)]:
            self.assertIs(can_go_web(WEB, HELD, value), False)

    def test_sound_links_are_wanted_behind_all_other_errors(self):
        for first, second in itertools.permutations(UNSOUND, 2):
            web = (3, [(0, 1, ONE), (0, 2, first), (1, 0, second)])
            names, contents = ["web", "contents", "most"], [REST] * 3
            self.refused(web_harm, [web, contents], first)
            self.refused(ways_by_harm, [web, contents], first)
            self.refused(harm_at, [web, contents, 0], first)
            self.refused(web_mending_cost, [web, contents, 0], first)
            self.refused(web_mendings, [web, contents, 1], first)
            self.refused(are_web_mendings, [web, contents, 1, []], first)
            for function in (web_mending_cost, web_mendings):
                expect(self, function, names, [web, contents, -1], InvalidNumber, -1)
                expect(self, function, names, [web, None, -1], InvalidContents, None)
            expect(self, harm_at, ["web", "contents", "host"], [web, contents, 3], InvalidNumber, 3)
            expect(self, are_web_mendings, names + ["value"], [web, contents, None, []], InvalidNumber, None)
            self.assertEqual(web_after(web, contents, [(1, ("send",))])[1], REST[:2] + ((1, 0, 0), (0, 0)))

    def refused(self, function, args, link):
        with self.assertRaises(Unlike) as caught:
            function(*args)
        self.assertIs(caught.exception.value, link)

    def test_an_error_of_a_link_is_never_told(self):
        with self.assertRaises(InvalidWeb):
            web_harm((3, [(0, 1, (0, 1, 1, 1))]), [REST])
        self.assertFalse(issubclass(InvalidWeb, InvalidLink))

    def test_new_lists(self):
        check_unchanged(self, are_web_contents, WEB, HELD)
        for function in (web_after, web_wrong_steps, by_ways, can_go_web):
            check_unchanged(self, function, WEB, HELD, RUN)
        check_unchanged(self, part_of, WEB, HELD, RUN, 0)
        for function in (web_harm, ways_by_harm):
            check_unchanged(self, function, WEB, HELD)
        for most in range(6):
            check_unchanged(self, web_mending_cost, WEB, HELD, most)
            found = check_unchanged(self, web_mendings, WEB, HELD, most)
            check_unchanged(self, are_web_mendings, WEB, HELD, most, found)
            self.assertFalse(shares_lists(found))


if __name__ == "__main__":
    unittest.main()
