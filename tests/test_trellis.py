"""Promises 14, 15 and 16, and 2 where it is about them."""

import unittest
from functools import partial
from itertools import product
from math import isqrt
from random import Random

from helpers import HUGE, Checks, some_rows
from warbleline.errors import BadBit, BadCount, BadRate
from warbleline.trellis import TAIL, coded, heard_path, least_distance, nearest

RATES = (1, 2, 3, 4)
# As many beats, the tail not counted, as a test can go through all rows of.
FEW_BEATS = {1: 6, 2: 3, 3: 2, 4: 2}
WRONG_RATES = (0, 5, -1, HUGE, -HUGE)
WRONG_BITS = (2, -1, HUGE, -HUGE)


def by_words(bits, rate):
    """The numbers of the points, as the document has it."""
    older, newer, numbers = 0, 0, []
    padded = bits + [0] * (2 * rate)
    while padded:
        first, others, padded = padded[0], padded[1:rate], padded[rate:]
        m = int("".join(str(bit) for bit in others) or "0", 2)
        t = 1 if first != older else 0
        numbers.append(4 * m + 2 * t + newer)
        older, newer = newer, first
    return numbers


def place(number, rate):
    """Where a point stands."""
    wide = {1: 64, 2: 32, 3: 16, 4: 8}[rate]
    return -128 + wide // 2 + number * wide


def places(bits, rate):
    """Where the points of a row stand."""
    return [place(number, rate) for number in by_words(bits, rate)]


def square(one, other):
    """The square of the shorter way round the ring."""
    gap = (one - other) % 256
    return min(gap, 256 - gap) ** 2


def cost(heard, there):
    return sum(square(one, other) for one, other in zip(heard, there, strict=True))


def halfway(here, there):
    """Numbers just between those of two lists, on the shorter way round the ring."""
    return [one + ((other - one + 128) % 256 - 128) // 2 for one, other in zip(here, there, strict=True)]


def all_rows(beats, rate):
    return [list(bits) for bits in product((0, 1), repeat=beats * rate)]


def forward_search(heard, rate):
    """The least cost and the least row with it, with the best row up to each state kept beat by beat."""
    best = {(0, 0): (0, [])}
    for at, number in enumerate(heard):
        tail = at >= len(heard) - 2
        grown = {}
        for (older, newer), (spent, row) in best.items():
            for bits in [[0] * rate] if tail else all_rows(1, rate):
                m = int("0" + "".join(str(bit) for bit in bits[1:]), 2)
                there = place(4 * m + 2 * (bits[0] ^ older) + newer, rate)
                way = (spent + square(number, there), row if tail else row + bits)
                state = (newer, bits[0])
                grown[state] = min(grown.get(state, way), way)
        best = grown
    return best[0, 0][1], best[0, 0][0]


def drawn_bits(chance, many):
    return [chance.randrange(2) for turn in range(many)]


class CodedTest(Checks, unittest.TestCase):
    def test_by_hand(self):
        self.assertEqual(TAIL, 2)
        self.tells(coded, [0], [0, 0, 0])
        self.tells(coded, [1], [2, 1, 2])
        self.tells(coded, [1, 0, 1, 1], [2, 1, 0, 3, 3, 2])
        self.tells(partial(coded, rate=1), [1, 1, 0], [2, 3, 3, 2, 0])
        self.tells(partial(coded, rate=2), [1, 1, 0, 1, 1, 0], [6, 5, 0, 1, 2])
        self.tells(partial(coded, rate=3), [1, 1, 0, 0, 0, 1], [10, 5, 2, 0])
        self.tells(partial(coded, rate=4), [0, 1, 1, 1, 1, 0, 0, 1], [28, 6, 1, 2])

    def test_empty_row(self):
        self.tells(coded, [], [0, 0])
        for rate in RATES:
            self.tells(partial(coded, rate=rate), [], [0, 0])

    def test_first_and_last_point(self):
        for rate in RATES:
            self.assertEqual(coded([0] * rate, rate=rate)[0], 0)
            self.assertEqual(max(max(coded(row, rate=rate)) for row in all_rows(2, rate)), 2 ** (rate + 1) - 1)

    def test_all_short_rows(self):
        for rate in RATES:
            for row in all_rows(FEW_BEATS[rate], rate):
                self.assertEqual(coded(row, rate=rate), by_words(row, rate))

    def test_long_rows(self):
        for rate in RATES:
            for row in some_rows(61, [rate * beats for beats in (1, 7, 100, 1000)]):
                self.tells(partial(coded, rate=rate), row, by_words(row, rate))
                self.assertEqual(len(coded(row, rate=rate)), len(row) // rate + 2)

    def test_by_name(self):
        self.assertEqual(coded(bits=[1, 0], rate=2), [2, 1, 2])
        with self.assertRaises(TypeError):
            coded([1, 0], 2)

    def test_bad_rate_ahead_of_all_else(self):
        for rate in WRONG_RATES:
            for bits in ([], [0], [2], [0, 1, 0, 1, 5], [1] * 7):
                self.refused(BadRate, partial(coded, rate=rate), bits)

    def test_bad_bit(self):
        for rate in RATES:
            for wrong in WRONG_BITS:
                self.refused(BadBit, partial(coded, rate=rate), [0] * 11 + [wrong], at=11)
                self.refused(BadBit, partial(coded, rate=rate), [1, wrong] + [0, 7] * 5, at=1)
                # Ahead of the wrong length.
                self.refused(BadBit, partial(coded, rate=rate), [0] * 12 + [wrong], at=12)

    def test_bad_count(self):
        for rate in (2, 3, 4):
            for length in range(1, 30):
                if length % rate:
                    self.refused(BadCount, partial(coded, rate=rate), [1] * length)
                else:
                    self.assertEqual(len(coded([1] * length, rate=rate)), length // rate + 2)


class HeardPathTest(Checks, unittest.TestCase):
    def heard_of(self, heard, rate, expected):
        """Tells this pair, each time anew, and leaves what was heard as it was."""
        before = list(heard)
        told = heard_path(heard, rate=rate)
        self.assertEqual(told, expected)
        self.assertIs(type(told), tuple)
        self.assertIs(type(told[0]), list)
        self.assertEqual({type(thing) for thing in told[0] + [told[1]]}, {int})
        told[0].append(9)
        self.assertEqual(heard, before)
        self.assertEqual(heard_path(heard, rate=rate), expected)

    def against_all_rows(self, rate, beats, lists):
        """The told pair is the best of all rows, of several the least one; returns how often there were several."""
        rows = [(row, places(row, rate)) for row in all_rows(beats, rate)]
        several = 0
        for heard in lists:
            costs = [(cost(heard, there), row) for row, there in rows]
            least, row = min(costs)
            several += [found for found, _ in costs].count(least) > 1
            self.heard_of(heard, rate, (row, least))
        return several

    def test_by_hand(self):
        # [1] has the points 2, 1 and 2, at 32, -32 and 32.
        self.heard_of([32, -32, 32], 1, ([1], 0))
        self.heard_of([30, -29, 32], 1, ([1], 13))
        self.heard_of([-96, -96, -96], 1, ([0], 0))
        # All are 64 apart from both, but the second one: -96 and -32.
        self.heard_of([-32, -64, -32], 1, ([0], 4096 + 1024 + 4096))

    def test_points_without_noise(self):
        for rate in RATES:
            for row in all_rows(FEW_BEATS[rate], rate):
                self.assertEqual(heard_path(places(row, rate), rate=rate), (row, 0))

    def test_drawn_numbers(self):
        chance = Random(62)
        for rate in RATES:
            for beats in range(FEW_BEATS[rate] + 1):
                lists = [[chance.randrange(-128, 128) for beat in range(beats + 2)] for turn in range(25)]
                self.against_all_rows(rate, beats, lists)

    def test_points_with_noise(self):
        chance = Random(63)
        for rate in RATES:
            beats = FEW_BEATS[rate]
            lists = []
            for loud in (1, 5, 20, 60) * 6:
                row = drawn_bits(chance, beats * rate)
                lists.append([number + chance.randrange(-loud, loud + 1) for number in places(row, rate)])
            self.against_all_rows(rate, beats, lists)

    def test_just_between_points(self):
        chance = Random(64)
        for rate in RATES:
            wide = 256 >> (rate + 1)
            for beats in range(1, FEW_BEATS[rate] + 1):
                edges = range(-128, 128, wide)
                lists = [[chance.choice(edges) for beat in range(beats + 2)] for turn in range(25)]
                self.against_all_rows(rate, beats, lists)

    def test_just_between_two_rows(self):
        chance = Random(68)
        for rate in RATES:
            several = 0
            for beats in range(1, FEW_BEATS[rate] + 1):
                lists = []
                for turn in range(40):
                    row = drawn_bits(chance, beats * rate)
                    # As near as may be: unlike in the first bit of one beat, or in some others of it.
                    unlike = [1] + [0] * (rate - 1) if turn % 2 else [0] + drawn_bits(chance, rate - 1)
                    ahead = chance.randrange(beats)
                    unlike = [0] * (rate * ahead) + unlike + [0] * (rate * (beats - 1 - ahead))
                    other = [bit ^ turned for bit, turned in zip(row, unlike, strict=True)]
                    lists.append(halfway(places(row, rate), places(other, rate)))
                several += self.against_all_rows(rate, beats, lists)
            self.assertGreater(several, 20)

    def test_just_between_points_that_differ_in_m_alone(self):
        # Four steps apart, so just between them is two steps on; there the least m is told, also round the ring.
        for rate in (2, 3, 4):
            wide = 256 >> (rate + 1)
            many = 2 ** (rate - 1)
            for m in range(many):
                heard = [place(4 * m, rate) + 2 * wide, place(0, rate), place(0, rate)]
                self.assertEqual(self.against_all_rows(rate, 1, [heard]), 1)

    def test_all_alike(self):
        for rate in RATES:
            beats = FEW_BEATS[rate]
            self.against_all_rows(rate, beats, [[number] * (beats + 2) for number in range(-128, 128, 4)])

    def test_no_beats_but_the_tail(self):
        for rate in RATES:
            first = place(0, rate)
            self.heard_of([first, first], rate, ([], 0))
            self.heard_of([first + 3, first - 128], rate, ([], 9 + 128 ** 2))
            self.heard_of([0, 77], rate, ([], square(0, first) + square(77, first)))

    def test_rings_away(self):
        chance = Random(65)
        for rate in RATES:
            beats = FEW_BEATS[rate]
            near = [chance.randrange(-128, 128) for beat in range(beats + 2)]
            told = heard_path(near, rate=rate)
            for rings in (1, -1, 2, 1000, 390625000000000000 - 1, 1 - 390625000000000000):
                self.heard_of([number + 256 * rings for number in near], rate, told)
            far = [number + 256 * chance.randrange(-10 ** 17, 10 ** 17) for number in near]
            self.heard_of(far, rate, told)
            self.against_all_rows(rate, beats, [far, [HUGE] * (beats + 2), [-HUGE] * (beats + 2)])

    def test_long_rows(self):
        chance = Random(66)
        for rate in RATES:
            for beats in (50, 300):
                for wide in (1, 8, 64):
                    heard = [wide * chance.randrange(-256, 256) for beat in range(beats + 2)]
                    self.assertEqual(heard_path(heard, rate=rate), forward_search(heard, rate))
                row = drawn_bits(chance, beats * rate)
                self.assertEqual(heard_path(places(row, rate), rate=rate), (row, 0))
                noisy = [number + chance.randrange(-15, 16) for number in places(row, rate)]
                self.assertEqual(heard_path(noisy, rate=rate), forward_search(noisy, rate))

    def test_the_longest_list(self):
        for rate in RATES:
            row = some_rows(67, [3998 * rate])[0]
            heard = places(row, rate)
            heard[1000] += 3
            self.assertEqual(heard_path(heard, rate=rate), (row, 9))

    def test_rate_left_out(self):
        self.assertEqual(heard_path([32, -32, 32]), ([1], 0))
        self.assertEqual(heard_path(heard=[32, -32, 30], rate=1), ([1], 4))
        with self.assertRaises(TypeError):
            heard_path([32, -32, 32], 1)

    def test_too_few_numbers(self):
        for rate in RATES:
            for heard in ([], [0], [HUGE]):
                self.refused(BadCount, partial(heard_path, rate=rate), heard)
        self.refused(BadCount, heard_path, [])
        self.refused(BadCount, heard_path, [5])

    def test_bad_rate_ahead_of_too_few(self):
        for rate in WRONG_RATES:
            for heard in ([], [0], [0, 0], [1, 2, 3]):
                self.refused(BadRate, partial(heard_path, rate=rate), heard)


class DistanceTest(Checks, unittest.TestCase):
    def test_each_rate(self):
        self.assertEqual([least_distance(rate=rate) for rate in RATES], [36864, 9216, 2304, 576])
        self.assertEqual(least_distance(), 36864)
        self.assertIs(type(least_distance(rate=3)), int)

    def test_all_pairs_of_short_rows(self):
        for rate in RATES:
            found = []
            for beats in range(1, FEW_BEATS[rate] + 1):
                lines = [places(row, rate) for row in all_rows(beats, rate)]
                found += [cost(one, other) for at, one in enumerate(lines) for other in lines[:at]]
            self.assertEqual(min(found), least_distance(rate=rate))

    def test_pairs_of_rows_of_any_length(self):
        # The least cost from two coders' first states to each two states, by rows unlike so far, until it stays.
        for rate in RATES:
            beats = all_rows(1, rate)
            start = ((0, 0), (0, 0), False)
            best, changed = {start: 0}, [start]
            while changed:
                (one, other, unlike), changed = changed[0], changed[1:]
                for here, there in product(beats, beats):
                    where = (one[1], here[0]), (other[1], there[0]), unlike or here != there
                    told = best[one, other, unlike] + square(self.told(one, here, rate), self.told(other, there, rate))
                    if told < best.get(where, told + 1):
                        best[where] = told
                        changed.append(where)
            self.assertEqual(best[(0, 0), (0, 0), True], least_distance(rate=rate))

    def told(self, state, bits, rate):
        m = int("0" + "".join(str(bit) for bit in bits[1:]), 2)
        return place(4 * m + 2 * (bits[0] ^ state[0]) + state[1], rate)

    def test_nearest(self):
        for rate in RATES:
            pair = nearest(rate=rate)
            self.assertIs(type(pair), tuple)
            one, other = pair
            self.assertIs(type(one), list)
            self.assertIs(type(other), list)
            self.assertNotEqual(one, other)
            self.assertEqual(len(one), len(other))
            self.assertEqual(cost(places(one, rate), places(other, rate)), least_distance(rate=rate))
            self.assertEqual({type(bit) for bit in one + other}, {int})
        self.assertEqual(nearest(), nearest(rate=1))

    def test_told_lists_are_the_callers(self):
        for rate in RATES:
            one, other = nearest(rate=rate)
            before = (list(one), list(other))
            one.append(1)
            other[0] = 7
            self.assertEqual(nearest(rate=rate), before)
            self.assertNotEqual(least_distance(rate=rate), 0)
            self.assertEqual(least_distance(rate=rate), (36864, 9216, 2304, 576)[rate - 1])

    def test_bad_rate(self):
        for rate in WRONG_RATES:
            self.refused(BadRate, partial(least_distance, rate=rate))
            self.refused(BadRate, partial(nearest, rate=rate))

    def test_rate_only_by_its_name(self):
        for call in (least_distance, nearest):
            with self.assertRaises(TypeError):
                call(1)


class NoiseTest(unittest.TestCase):
    def undone(self, row, noise, rate):
        """The row and the sum are told, of noise whose squares add up to less than a quarter of least_distance."""
        together = sum(number ** 2 for number in noise)
        self.assertLess(4 * together, least_distance(rate=rate))
        heard = [there + number for there, number in zip(places(row, rate), noise, strict=True)]
        self.assertEqual(heard_path(heard, rate=rate), (row, together))
        return together

    def test_on_one_beat(self):
        chance = Random(71)
        for rate in RATES:
            most = isqrt((least_distance(rate=rate) - 1) // 4)
            for beats in (0, 1, 2, 10):
                row = drawn_bits(chance, beats * rate)
                for at in range(beats + 2):
                    for loud in (most, -most):
                        self.undone(row, [loud if beat == at else 0 for beat in range(beats + 2)], rate)

    def test_spread_over_many(self):
        chance = Random(72)
        for rate in RATES:
            most = (least_distance(rate=rate) - 1) // 4
            for turn in range(60):
                noise = self.noise_of(chance, most, chance.choice((1, 3, 10, 100)))
                row = drawn_bits(chance, (len(noise) - 2) * rate)
                self.assertEqual(self.undone(row, noise, rate), most)

    def noise_of(self, chance, most, loudest):
        """Numbers whose squares add up to just this much."""
        noise, left = [0, 0], most
        while left:
            loud = chance.randrange(1, min(isqrt(left), loudest) + 1) if len(noise) < 30 else isqrt(left)
            noise.append(chance.choice((loud, -loud)))
            left -= loud ** 2
        chance.shuffle(noise)
        return noise

    def test_towards_the_nearest_row(self):
        # Half the way to the nearest row is a tie, and one less on any beat is just too little.
        chance = Random(73)
        for rate in RATES:
            one, other = nearest(rate=rate)
            for sent, unsent in ((one, other), (other, one)):
                here = places(sent, rate)
                ways = [middle - start for middle, start in zip(halfway(here, places(unsent, rate)), here)]
                for signs in product((1, -1), repeat=len(ways)):
                    for at in range(len(ways)):
                        noise = [sign * way for sign, way in zip(signs, ways)]
                        noise[at] += -1 if noise[at] > 0 else 1
                        self.undone(sent, noise, rate)
                        ahead = drawn_bits(chance, 5 * rate)
                        self.undone(ahead + sent, [0] * 5 + noise, rate)

    def test_just_a_quarter_may_be_too_much(self):
        for rate in RATES:
            one, other = sorted(nearest(rate=rate))
            heard = halfway(places(one, rate), places(other, rate))
            # Both cost the same, so the least one is told, whichever was sent.
            self.assertEqual(heard_path(heard, rate=rate), (one, least_distance(rate=rate) // 4))

    def test_rings_away(self):
        chance = Random(74)
        for rate in RATES:
            row = drawn_bits(chance, 20 * rate)
            heard = [there + 256 * chance.randrange(-10 ** 17, 10 ** 17) for there in places(row, rate)]
            heard[3] += 2
            heard[9] -= 1
            self.assertEqual(heard_path(heard, rate=rate), (row, 5))


if __name__ == "__main__":
    unittest.main()
