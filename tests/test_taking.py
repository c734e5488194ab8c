import itertools
import random
import unittest

from healwires.errors import InvalidContents, InvalidLink, InvalidNumber, Unlike
from healwires.harm import harm
from healwires.taking import harm_by_words, how_many_takings, taking_cost, words_for
from model import (
    BAD_CONTENTS, BAD_COUNTS, BAD_LINKS, WORD_LISTS, all_mendings, check_errors, check_unchanged, expect, harms,
    mended, some_contents_of, some_sound_links,
)

LINK = (3, 2, 4, 4)
MIXED = ((0, 2), (1, ("old", 3), True), (1, 0, 2), (0, 1))
BIG = 10 ** 29
SOUND = [
    (1, 1, 1, 1), (1, 1, 2, 2), (2, 1, 2, 1), (2, 1, 3, 2), (1, 2, 1, 2), (1, 2, 2, 3), (2, 2, 2, 2), (1, 1, 3, 3),
    (3, 1, 3, 1), (1, 3, 1, 3),
]
UNSOUND = [(2, 1, 1, 1), (1, 2, 1, 1), (3, 2, 2, 2), (BIG, 1, BIG - 1, 1), (1, BIG, 1, BIG - 1)]
START = ((0, 0), (1, None, False), (0, 0, 0), (0, 0))
MOSTS = (0, 1, 2, 3, 4, BIG)


def all_takings(contents):
    return list(itertools.product(*[range(many + 1) for many in contents[2][1:] + contents[3]]))


class Takings(unittest.TestCase):
    """Point 41."""

    def test_the_examples_of_the_document(self):
        link, bad = (3, 3, 3, 3), ((0, 2), (0, ("old", 2), False), (0, 1, 2), (2, 1))
        self.assertEqual(
            [taking_cost(link, bad, 0), taking_cost(link, bad, 1), how_many_takings(link, bad, 1),
             how_many_takings(link, bad, 3)],
            [None, 2, 20, 36])
        self.assertEqual(
            [harm_by_words(link, bad)[1], harm_by_words(link, bad)[6], words_for(link, bad, 0),
             words_for(link, bad, 1), words_for(link, bad, 3)],
            [(["clear"], 1), (["forget", "turn"], 0), ["forget", "turn"], ["clear"], []])

    def test_all_takings_of_small_links(self):
        for link in SOUND:
            told = harms(link)
            for contents in told:
                tried = [(taking, told[mended(contents, ([], taking))]) for taking in all_takings(contents)]
                for most in MOSTS:
                    enough = [taking for taking, many in tried if many <= most]
                    self.assertEqual(how_many_takings(link, contents, most), len(enough), (link, contents, most))
                    least = min([sum(taking) for taking in enough], default=None)
                    self.assertEqual(taking_cost(link, contents, most), least, (link, contents, most))
                    even, done = contents[0][0] == contents[1][0], contents[1][2]
                    self.assertIs(least is None, most == 0 and even != done)

    def test_whatever_does_it_does_it_with_more_taken_out(self):
        for link in SOUND[:7]:
            told = harms(link)
            for contents in told:
                found = {taking: told[mended(contents, ([], taking))] for taking in all_takings(contents)}
                for taking, many in found.items():
                    for place in range(4):
                        more = taking[:place] + (taking[place] + 1,) + taking[place + 1:]
                        self.assertLessEqual(found.get(more, 0), many)

    def test_great_links(self):
        draw = random.Random(81)
        links = some_sound_links(draw)
        for _ in range(300):
            link = next(links)
            contents = some_contents_of(link, draw)
            c, d, p, q = link
            (bit, heard), (other, lot, done), there, back = contents
            old = there[2 - other] + (lot[1] if lot and lot[0] == "old" else 0)
            # Of the answers of the sender's bit, and of the old copies of the other one: so many ways to take out ..
            ways = (back[bit] + 1, there[2 - other] + 1)
            # .. of which so many leave enough.
            enough = (max(0, heard + back[bit] - q + 1), max(0, old - p + 1))
            rest = (back[1 - bit] + 1) * (there[1 + other] + 1)
            even = bit == other
            for most in MOSTS:
                found = 0
                for a, o in itertools.product((True, False), repeat=2):
                    if even and done:
                        many = 2 if o else 0
                    elif even:
                        many = 3 if a and o else 1
                    else:
                        many = 1 if done else 2 if a or o else 0
                    if many <= most:
                        found += (enough[0] if a else ways[0] - enough[0]) * (enough[1] if o else ways[1] - enough[1])
                self.assertEqual(how_many_takings(link, contents, most), found * rest)
                cost = taking_cost(link, contents, most)
                self.assertIs(cost is None, found == 0)
                if cost is not None and cost < 6:
                    small = [one for one in all_mendings(contents, 5) if not one[0]]
                    tried = [sum(one[1]) for one in small if harm(link, mended(contents, one)) <= most]
                    self.assertEqual(cost, min(tried))

    def test_great_numbers(self):
        link = (BIG, BIG, BIG, BIG)
        full = ((0, BIG - 1), (0, ("old", BIG - 4), False), (0, 7, BIG - 7), (BIG - 5, 5))
        # 3 is the harm; 1 if one answer is left out of BIG - 5, or if BIG - 10 copies are.
        self.assertEqual(
            [taking_cost(link, full, most) for most in (0, 1, 2, 3)], [None, min(BIG - 5, BIG - 10), BIG - 10, 0])
        self.assertEqual(how_many_takings(link, full, 3), 8 * (BIG - 6) * (BIG - 4) * 6)
        self.assertEqual(how_many_takings(link, full, 0), 0)
        self.assertEqual(
            how_many_takings(link, full, 2), 8 * 6 * ((BIG - 6) * (BIG - 4) - (BIG - 10) * (BIG - 5)))


class Words(unittest.TestCase):
    """Point 42."""

    def test_all_lists_of_words_of_small_links(self):
        for link in SOUND:
            told = harms(link)
            for contents in told:
                rows = [(words, told[mended(contents, (words, (0, 0, 0, 0)))]) for words in WORD_LISTS]
                self.assertEqual(harm_by_words(link, contents), rows)
                for most in MOSTS:
                    enough = sorted((len(words), words) for words, many in rows if many <= most)
                    self.assertEqual(words_for(link, contents, most), enough[0][1] if enough else None)
                    if link[2] > link[0] and link[3] > link[1]:
                        self.assertTrue(enough)

    def test_contents_that_no_words_mend(self):
        full = ((0, BIG - 1), (0, None, False), (0, BIG, 0), (BIG, 0))
        self.assertIsNone(words_for((BIG, BIG, BIG, BIG), full, 0))
        self.assertEqual(words_for((BIG, BIG, BIG, BIG), full, 1), [])
        self.assertEqual(words_for((BIG, BIG, BIG + 1, BIG + 1), full, 0), ["forget", "turn"])
        self.assertIsNone(words_for((1, 1, 1, 1), ((0, 0), (0, None, False), (0, 1, 0), (1, 0)), 0))

    def test_there_is_always_one_with_a_spare_copy_and_a_spare_answer(self):
        draw = random.Random(82)
        links = some_sound_links(draw)
        for _ in range(400):
            c, d, p, q = next(links)
            link = (c, d, max(p, c + 1), max(q, d + 1))
            contents = some_contents_of(link, draw)
            rows = [(words, harm(link, mended(contents, (words, (0, 0, 0, 0))))) for words in WORD_LISTS]
            self.assertEqual(harm_by_words(link, contents), rows)
            for most in MOSTS:
                enough = sorted((len(words), words) for words, many in rows if many <= most)
                self.assertEqual(words_for(link, contents, most), enough[0][1])


class Refused(unittest.TestCase):
    """Points 2, 5, 41 and 42."""

    def test_errors(self):
        links, contents = (InvalidLink, BAD_LINKS), (InvalidContents, BAD_CONTENTS)
        triple = ["link", "contents", "most"]
        for function in (taking_cost, how_many_takings, words_for):
            check_errors(self, function, triple, [LINK, MIXED, 1], [links, contents, (InvalidNumber, BAD_COUNTS)])
        check_errors(self, harm_by_words, triple[:2], [LINK, MIXED], [links, contents])

    def test_a_sound_link_is_wanted_behind_all_other_errors(self):
        triple = ["link", "contents", "most"]
        for link in UNSOUND:
            for function in (taking_cost, how_many_takings, words_for):
                expect(self, function, triple, [link, START, 0], Unlike, link)
                expect(self, function, triple, [link, START, True], InvalidNumber, True)
                expect(self, function, triple, [link, None, -1], InvalidContents, None)
            expect(self, harm_by_words, triple[:2], [link, START], Unlike, link)
            expect(self, harm_by_words, triple[:2], [link, ()], InvalidContents, ())

    def test_new_lists(self):
        link, bad = (3, 3, 3, 3), ((0, 2), (0, ("old", 2), False), (0, 1, 2), (2, 1))
        check_unchanged(self, harm_by_words, link, bad)
        for most in range(4):
            check_unchanged(self, words_for, link, bad, most)
            check_unchanged(self, taking_cost, link, bad, most)
            check_unchanged(self, how_many_takings, link, bad, most)


if __name__ == "__main__":
    unittest.main()
