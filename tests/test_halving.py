import math
import random
import unittest

from healwires.halving import part_within

BIG = 10 ** 30


class Looks:
    """Counts how often a function is asked."""

    def __init__(self, count):
        self.count, self.asked = count, 0

    def __call__(self, part):
        self.asked += 1
        return self.count(part)


class Halving(unittest.TestCase):
    def test_small_numbers_of_any_growth(self):
        draw = random.Random(81)
        for _ in range(3000):
            sums = [0]
            for _ in range(draw.randint(1, 40)):
                sums.append(sums[-1] + draw.choice([0, 0, 1, draw.randint(0, 9), draw.randint(0, 10 ** 6)]))
            most = len(sums) - 2
            if sums[-1] == 0:
                continue
            bend = draw.randint(-2, most + 4)
            number = draw.choice([draw.randrange(sums[-1]), sums[-1] - 1, 0, min(draw.choice(sums), sums[-1] - 1)])
            found = max(part for part in range(most + 1) if sums[part] <= number)
            self.assertEqual(part_within(sums.__getitem__, most, bend, number), found)

    def test_great_numbers_in_few_looks(self):
        draw = random.Random(82)

        def growths(most, bend):
            yield lambda part: 3 * part
            yield lambda part: part * (part + 1) // 2
            yield lambda part: math.comb(part + 3, 4)
            yield lambda part: math.comb(most + 3, 3) - math.comb(most + 3 - part, 3)
            yield lambda part: 7 * part + 10 ** 40 * math.comb(max(0, part - bend) + 2, 3)
            yield lambda part: math.comb(max(0, part - bend) + 3, 4)
            yield lambda part: max(0, part - bend)
            yield lambda part: min(part, bend) * 10 ** 50 + max(0, part - bend)

        for _ in range(60):
            most = draw.choice([BIG, draw.randint(10, BIG), draw.randint(10, 10 ** 9)])
            bend = draw.randint(0, draw.choice([most, 10]))
            for growth in growths(most, bend):
                total = growth(most + 1)
                for number in (0, 1, total - 1, total // 2, draw.randrange(total), draw.randrange(2 ** draw.randint(
                        1, total.bit_length())), total - 1 - draw.randrange(2 ** draw.randint(1, total.bit_length()))):
                    if 0 <= number < total:
                        looks = Looks(growth)
                        found = part_within(looks, most, bend, number)
                        self.assertTrue(0 <= found <= most and growth(found) <= number < growth(found + 1))
                        self.assertLess(looks.asked, 60)

    def test_growth_that_is_not_even_at_all(self):
        """Halving is left, where no aim tells anything."""
        draw = random.Random(83)
        for _ in range(60):
            most = draw.choice([BIG, draw.randint(10, BIG)])
            steep = sorted(draw.randint(1, most + 1) for _ in range(3))
            heights = [draw.choice([1, 10 ** 50, draw.randint(1, 10 ** 20)]) for _ in steep]

            def growth(part):
                return sum(height for at, height in zip(steep, heights) if part >= at) + (part > most)

            for number in {0, growth(most), growth(steep[0]), growth(steep[1]) - 1, growth(steep[1])}:
                looks = Looks(growth)
                found = part_within(looks, most, draw.choice([0, steep[0]]), number)
                self.assertTrue(growth(found) <= number < growth(found + 1))
                self.assertLess(looks.asked, 500)


if __name__ == "__main__":
    unittest.main()
