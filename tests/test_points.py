"""Promise 13."""

import unittest
from functools import partial

from helpers import HUGE, Checks
from warbleline.errors import BadCount, BadRate
from warbleline.points import RATES, RING, apart, folded, point, step

WRONG_RATES = (0, 5, -1, -4, 100, HUGE, -HUGE)

# Each rate's step, first point, last point and count of points.
POINTS = ((1, 64, -96, 96, 4), (2, 32, -112, 112, 8), (3, 16, -120, 120, 16), (4, 8, -124, 124, 32))


class RingTest(unittest.TestCase):
    def test_values(self):
        self.assertEqual((RING, RATES), (256, (1, 2, 3, 4)))
        self.assertIs(type(RATES), tuple)

    def test_folded_at_the_edges(self):
        for number, expected in ((-129, 127), (-128, -128), (-127, -127), (-1, -1), (0, 0), (1, 1), (127, 127),
                                 (128, -128), (129, -127), (255, -1), (256, 0), (257, 1), (383, 127), (384, -128),
                                 (-256, 0), (-255, 1), (-384, -128), (-385, 127)):
            self.assertEqual(folded(number), expected)

    def test_folded_of_the_ring(self):
        for number in range(-128, 128):
            self.assertEqual(folded(number), number)

    def test_folded_by_whole_rings(self):
        for rings in (1, -1, 2, -2, 1000, -1000, 390625000000000000, -390625000000000000):
            for number in (-128, -127, -5, 0, 9, 126, 127):
                self.assertEqual(folded(number + rings * 256), number)

    def test_folded_of_twenty_figures(self):
        # 10 ** 20 is a multiple of 256.
        self.assertEqual(folded(99999999999999999999), -1)
        self.assertEqual(folded(-99999999999999999999), 1)
        self.assertEqual(folded(99999999999999999872), -128)
        self.assertEqual(folded(99999999999999999871), 127)
        self.assertEqual(folded(-99999999999999999872), -128)
        self.assertEqual(folded(-99999999999999999873), 127)
        self.assertEqual(folded(10000000000000000000), 0)

    def test_by_name(self):
        self.assertEqual(folded(number=300), 44)
        self.assertEqual(apart(other=300, one=40), 4)

    def test_apart(self):
        for one, other, expected in ((0, 0, 0), (0, 1, 1), (0, 127, 127), (0, 128, 128), (0, -128, 128), (0, 129, 127),
                                     (-128, 127, 1), (-96, 96, 64), (-124, 124, 8), (50, -78, 128), (50, -79, 127),
                                     (5, 261, 0), (5, -251, 0), (HUGE, 0, 1), (HUGE, -HUGE, 2), (HUGE, HUGE, 0),
                                     (-HUGE, 129, 128)):
            self.assertEqual(apart(one, other), expected)
            self.assertEqual(apart(other, one), expected)

    def test_apart_both_ways(self):
        # The shorter way round, counted step by step.
        for one in (-128, -77, 0, 3, 127):
            for other in range(-300, 300):
                away = next(many for many in range(129) if (other - one) % 256 in (many, -many % 256))
                self.assertEqual(apart(one, other), away)
                self.assertEqual(apart(other, one), away)


class PointsTest(Checks, unittest.TestCase):
    def test_each_rate(self):
        for rate, wide, first, last, many in POINTS:
            self.assertEqual(step(rate), wide)
            self.assertEqual(step(rate=rate), wide)
            self.assertEqual(point(0, rate=rate), first)
            self.assertEqual(point(1, rate=rate), first + wide)
            self.assertEqual(point(many - 1, rate=rate), last)
            self.assertEqual(point(number=many - 2, rate=rate), last - wide)
            places = [point(number, rate=rate) for number in range(many)]
            self.assertEqual(places, list(range(first, last + 1, wide)))
            # Round the ring the last one and the first one are a step apart, too.
            self.assertEqual(apart(places[0], places[-1]), wide)

    def test_rate_left_out(self):
        self.assertEqual([point(number) for number in range(4)], [-96, -32, 32, 96])
        self.refused(BadCount, point, 4)

    def test_rate_only_by_its_name(self):
        with self.assertRaises(TypeError):
            point(0, 1)

    def test_no_points_number(self):
        for rate, _, _, _, many in POINTS:
            for number in (-1, -many, many, many + 1, 1000, HUGE, -HUGE):
                self.refused(BadCount, partial(point, rate=rate), number)

    def test_bad_rate(self):
        for rate in WRONG_RATES:
            self.refused(BadRate, step, rate)
            self.refused(BadRate, partial(point, rate=rate), 0)

    def test_bad_rate_ahead_of_bad_count(self):
        for rate in WRONG_RATES:
            for number in (-1, 4, 32, HUGE, -HUGE):
                self.refused(BadRate, partial(point, rate=rate), number)

    def test_whole_numbers(self):
        for told in (folded(3), apart(3, 4), step(2), point(1), point(2, rate=4)):
            self.assertIs(type(told), int)


if __name__ == "__main__":
    unittest.main()
