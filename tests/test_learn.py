"""Promises 19, 20 and 21, and 2 where it is about them."""

import unittest
from functools import partial
from itertools import product
from random import Random

from helpers import HUGE, Checks
from warbleline.errors import BadCount, BadNoise, BadTaps, NoRate
from warbleline.learn import (
    BURST, DATA, STRONG, echo_of, paper, paper_holds, probe, shares_of, taps_of, trained)
from warbleline.wire import Wire

QUIET = [(0, 0)] * 20
PLACES = ("forth", "back", "near", "far")
KINDS = ((), (1,), (0, -2), (3, -3, 1), (0, 0, 0, 3), (-1, 2, -3, 1))
# By hand: nine squares of a step of 64, 32, 16, 8.
DISTANCES = {1: 36864, 2: 9216, 3: 2304, 4: 576}


def with_noise(at, pair):
    return QUIET[:at] + [pair] + QUIET[at + 1:]


def drawn_noises(seed, most):
    chance = Random(seed)
    return [(chance.randint(-most, most), chance.randint(-most, most)) for beat in range(20)]


class ProbeTest(Checks, unittest.TestCase):
    def test_numbers(self):
        self.assertEqual((STRONG, DATA, BURST), (1000, 16, 18))

    def test_probe(self):
        self.assertEqual(probe(), [1000, 0, 0, 0, 0])
        told = probe()
        told.clear()
        self.assertEqual(probe(), [1000, 0, 0, 0, 0])


class SharesOfTest(Checks, unittest.TestCase):
    def test_halves(self):
        heard = [499, 500, 501, -499, -500, -501, 1499, 1500, -1499, -1500, -1501, 2500, 2499, -2500, -2501]
        self.tells(shares_of, heard, [0, 1, 1, 0, 0, -1, 1, 2, -1, -1, -2, 3, 2, -2, -3])

    def test_whole_counts(self):
        self.tells(shares_of, [0, 1000, -1000, 3000, -3000, 7000], [0, 1, -1, 3, -3, 7])

    def test_all_about_nought(self):
        for number in range(-3600, 3600):
            expected = min(range(-5, 6), key=lambda count: (abs(number - 1000 * count), -count))
            self.assertEqual(shares_of([number]), [expected])

    def test_lengths(self):
        self.assertEqual(shares_of([]), [])
        self.assertIsNot(shares_of([]), shares_of([]))
        self.tells(shares_of, [1000], [1])
        self.tells(shares_of, [2000, -700] * 2000, [2, -1] * 2000)

    def test_great_numbers(self):
        self.tells(shares_of, [HUGE, -HUGE], [10 ** 17, -10 ** 17])


class TapsOfTest(Checks, unittest.TestCase):
    def test_tuples(self):
        for heard, taps in (([1000, 0, 0, 0, 0], ()), ([1000, 1000, -2000, 0, 0], (1, -2)),
                            ([1499, 0, 0, 0, 2500], (0, 0, 0, 3)), ([500, -3500, 3499, 499, -500], (-3, 3)),
                            ([1001, 1, -1, 1000, -1], (0, 0, 1))):
            before = list(heard)
            self.assertEqual(taps_of(heard), taps)
            self.assertIs(type(taps_of(heard=heard)), tuple)
            self.assertEqual(heard, before)

    def test_bad_noise(self):
        for many in (0, 1, 4, 6, 7, 4000):
            self.refused(BadNoise, taps_of, [1000] * many)
            self.refused(BadNoise, taps_of, [9000] * many)

    def test_first_is_not_one(self):
        for first in (0, 499, 1500, 2000, -1000, HUGE, -HUGE):
            self.refused(BadTaps, taps_of, [first, 0, 0, 0, 0])
        for first in (500, 1499):
            self.assertEqual(taps_of([first, 0, 0, 0, 0]), ())

    def test_beyond_three(self):
        for at in range(1, 5):
            for number in (3500, -3501, 4000, -4000, HUGE, -HUGE):
                heard = [1000, 0, 0, 0, 0]
                heard[at] = number
                self.refused(BadTaps, taps_of, heard)
            for number, share in ((3499, 3), (-3500, -3)):
                heard = [1000, 0, 0, 0, 0]
                heard[at] = number
                self.assertEqual(taps_of(heard), (0,) * (at - 1) + (share,))


class EchoOfTest(Checks, unittest.TestCase):
    def test_tuples(self):
        for heard, echo in (([0, 0, 0, 0, 0], ()), ([1000, 0, 0, 0, 0], (1,)), ([0, -3000, 0, 0, 0], (0, -3)),
                            ([3499, -3500, 499, 500, 499], (3, -3, 0, 1)), ([-500, 0, 499, -499, -500], ())):
            before = list(heard)
            self.assertEqual(echo_of(heard), echo)
            self.assertIs(type(echo_of(heard=heard)), tuple)
            self.assertEqual(heard, before)

    def test_bad_noise(self):
        for many in (0, 1, 4, 6, 7, 4000):
            self.refused(BadNoise, echo_of, [0] * many)
            self.refused(BadNoise, echo_of, [9000] * many)

    def test_fifth_is_not_nought(self):
        for last in (500, -501, 1000, -1000, HUGE, -HUGE):
            self.refused(BadTaps, echo_of, [1000, 0, 0, 0, last])
        for last in (499, -500):
            self.assertEqual(echo_of([1000, 0, 0, 0, last]), (1,))

    def test_beyond_three(self):
        for at in range(4):
            for number in (3500, -3501, 4000, -4000, HUGE, -HUGE):
                heard = [0] * 5
                heard[at] = number
                self.refused(BadTaps, echo_of, heard)


class ProbeHeardTest(unittest.TestCase):
    def test_a_wires_own(self):
        chance = Random(2)
        for shares in product(range(-3, 4), (0, 3), (-3, 0), (0, 2)):
            for noise in (0, 499, -499, None):
                wire = Wire(forth=shares, near=shares)
                heard = []
                for tone in probe():
                    both = [noise if noise is not None else chance.randint(-499, 499) for end in range(2)]
                    heard.append(wire.beat(tone, 0, noise=tuple(both)))
                own = Wire(forth=shares).shares()[0]
                self.assertEqual(taps_of([there for here, there in heard]), own)
                self.assertEqual(echo_of([here for here, there in heard]), own)


class TrainedTest(Checks, unittest.TestCase):
    def test_each_kind_of_shares(self):
        for at, shares in enumerate(product(KINDS, repeat=4)):
            wire = Wire(**dict(zip(PLACES, shares)))
            self.assertEqual(trained(wire, QUIET), (*shares, 0))
            noises = drawn_noises(at, 499)
            silent = noises[5:10] + noises[15:20]
            loud = max(abs(number) for pair in silent for number in pair)
            self.assertEqual(trained(wire, noises), (*shares, loud))

    def test_by_hand(self):
        wire = Wire(forth=(1, -2), near=(3,))
        self.assertEqual(trained(wire, QUIET), ((1, -2), (), (3,), (), 0))
        self.assertEqual(trained(wire=wire, noises=tuple(with_noise(7, (0, -22)))), ((1, -2), (), (3,), (), 22))

    def test_loudness_in_each_beat(self):
        wire = Wire(forth=(1,), back=(0, 0, 0, 3), near=(0, 0, 0, 2), far=(3, 3, 3, 3))
        for beat in range(20):
            for pair in ((77, 0), (-77, 0), (0, 77), (0, -77), (-77, 76), (76, -77)):
                heard = 77 if beat in range(5, 10) or beat in range(15, 20) else 0
                self.assertEqual(trained(wire, with_noise(beat, pair)), (*wire.shares(), heard))

    def test_greatest_of_several(self):
        noises = with_noise(6, (-30, 12))
        noises[17] = (29, 0)
        self.assertEqual(trained(Wire(), noises)[4], 30)
        noises[19] = (0, -31)
        self.assertEqual(trained(Wire(), noises)[4], 31)
        noises[5] = (HUGE, 0)
        self.assertEqual(trained(Wire(), noises)[4], HUGE)

    def test_as_heard(self):
        # The noise of a probe's beat makes a share of its own.
        self.assertEqual(trained(Wire(), with_noise(1, (0, 2000))), ((2,), (), (), (), 0))
        self.assertEqual(trained(Wire(), with_noise(2, (-1000, 0))), ((), (), (0, 0, -1), (), 0))
        self.assertEqual(trained(Wire(), with_noise(14, (3000, 0))), ((), (0, 0, 0, 3), (), (), 0))
        self.assertEqual(trained(Wire(), with_noise(10, (0, 1500))), ((), (), (), (2,), 0))

    def test_wire_is_as_it_was(self):
        wire = Wire(forth=(1, 2, 3), back=(2, 2, 2, 2), near=(1, 1, 1, 1), far=(-1, 0, 3, 3))
        for tone in (500, 900, -300, 77, 1000):
            wire.beat(tone, tone + 1)
        kept = wire.twin()
        noises = drawn_noises(9, 20)
        before = list(noises)
        first = trained(wire, noises)
        self.assertEqual(wire, kept)
        self.assertEqual(noises, before)
        self.assertEqual(first[:4], wire.shares())
        self.assertEqual(trained(wire, noises), first)
        self.assertEqual(trained(wire, noises), trained(Wire(**dict(zip(PLACES, wire.shares()))), noises))

    def test_bad_noise(self):
        wire = Wire(forth=(1,))
        wire.beat(1, 2)
        kept = wire.twin()
        for many in (0, 1, 19, 21, 40, 4000):
            self.refused(BadNoise, trained, wire, [(0, 0)] * many)
            self.refused(BadNoise, trained, wire, ((0, 0),) * many)
            self.refused(BadNoise, trained, wire, [(9000, 9000)] * many)
        self.assertEqual(wire, kept)

    def test_bad_taps(self):
        wire = Wire(far=(3,), near=(-3,))
        kept = wire.twin()
        # Another first tone, a fifth one of the own voice, more than three of a tone: at one, and at the other.
        for beat, pair in ((0, (0, 500)), (0, (0, -501)), (4, (500, 0)), (1, (0, 3500)), (1, (-3501, 0)),
                           (10, (500, 0)), (10, (-501, 0)), (14, (0, -501)), (13, (-3501, 0)), (12, (0, 3500)),
                           (0, (-501, 0)), (10, (0, 500)), (4, (0, 4000)), (14, (HUGE, 0))):
            self.refused(BadTaps, trained, wire, with_noise(beat, pair))
        self.assertEqual(wire, kept)


class PaperTest(Checks, unittest.TestCase):
    def test_where_each_rate_begins_and_ends(self):
        for loud, rate in ((0, 4), (1, 4), (2, 4), (3, 3), (5, 3), (6, 2), (11, 2), (12, 1), (22, 1)):
            self.assertEqual(paper(loud), (rate, DISTANCES[rate], 18 * loud * loud))
            self.assertIs(type(paper(loud)), tuple)
        self.refused(NoRate, paper, 23, loud=23)

    def test_four_times_the_energy_is_not_reached(self):
        # 4 times 144 is just the least distance of rate 4, and so on.
        for rate, loud in ((4, 12), (3, 24), (2, 48), (1, 96)):
            self.assertEqual(DISTANCES[rate], 4 * loud * loud)
            self.assertEqual(paper(loud - 1, beats=1), (rate, DISTANCES[rate], (loud - 1) ** 2))
            if rate > 1:
                self.assertEqual(paper(loud, beats=1), (rate - 1, DISTANCES[rate - 1], loud * loud))
        self.refused(NoRate, partial(paper, beats=1), 96, loud=96)

    def test_beats(self):
        self.assertEqual(paper(1, beats=143), (4, 576, 143))
        self.assertEqual(paper(1, beats=144), (3, 2304, 144))
        self.assertEqual(paper(1, beats=575), (3, 2304, 575))
        self.assertEqual(paper(1, beats=576), (2, 9216, 576))
        self.assertEqual(paper(1, beats=1000), (2, 9216, 1000))
        self.assertEqual(paper(0, beats=1000), (4, 576, 0))
        self.assertEqual(paper(3, beats=1000), (1, 36864, 9000))
        self.refused(NoRate, partial(paper, beats=1000), 4, loud=4)
        self.assertEqual(paper(loud=7), paper(7, beats=18))
        with self.assertRaises(TypeError):
            paper(1, 18)

    def test_by_words(self):
        for loud in range(100):
            for beats in (1, 2, 17, 18, 19, 500, 1000):
                rates = [rate for rate in DISTANCES if DISTANCES[rate] > 4 * beats * loud * loud]
                if rates:
                    self.assertEqual(paper(loud, beats=beats),
                                     (max(rates), DISTANCES[max(rates)], beats * loud * loud))
                else:
                    self.refused(NoRate, partial(paper, beats=beats), loud, loud=loud)

    def test_no_rate(self):
        for loud in (23, 1000, HUGE):
            self.refused(NoRate, paper, loud, loud=loud)

    def test_bad_count(self):
        for loud in (-1, -23, -HUGE):
            self.refused(BadCount, paper, loud)
        for beats in (0, -1, 1001, HUGE, -HUGE):
            for loud in (0, 5, 23, HUGE, -1):
                self.refused(BadCount, partial(paper, beats=beats), loud)


class PaperHoldsTest(Checks, unittest.TestCase):
    def test_the_told_paper(self):
        for loud in range(23):
            self.assertIs(paper_holds(paper(loud), loud), True)
            self.assertIs(paper_holds(found=paper(loud, beats=3), loud=loud, beats=3), True)
        self.assertIs(paper_holds((4, 576, 0), 0), True)

    def test_bent_papers(self):
        for loud in range(23):
            told = paper(loud)
            for at in range(3):
                for change in (1, -1, 256, HUGE, -HUGE):
                    bent = list(told)
                    bent[at] += change
                    self.assertIs(paper_holds(tuple(bent), loud), False)

    def test_of_another_rate(self):
        for loud in range(30):
            rates = [rate for rate in DISTANCES if DISTANCES[rate] > 72 * loud * loud]
            for rate in DISTANCES:
                found = (rate, DISTANCES[rate], 18 * loud * loud)
                self.assertIs(paper_holds(found, loud), bool(rates) and rate == max(rates))

    def test_of_other_beats_or_loudness(self):
        self.assertIs(paper_holds(paper(2), 2, beats=17), False)
        self.assertIs(paper_holds(paper(2), 3), False)
        self.assertIs(paper_holds(paper(0), 0, beats=1000), True)

    def test_where_there_is_none(self):
        for loud in (23, 24, HUGE):
            self.assertIs(paper_holds((1, 36864, 18 * loud * loud), loud), False)
        self.assertIs(paper_holds((0, 0, 0), 23), False)

    def test_any_three_numbers(self):
        for found in ((0, 0, 0), (5, 576, 0), (-1, -1, -1), (HUGE, HUGE, HUGE), (9, 9, 9)):
            self.assertIs(paper_holds(found, 0), False)

    def test_bad_count(self):
        for loud in (-1, -HUGE):
            self.refused(BadCount, paper_holds, (4, 576, 18), loud)
        for beats in (0, 1001, -1, HUGE):
            self.refused(BadCount, partial(paper_holds, beats=beats), (4, 576, 0), 0)
            self.refused(BadCount, partial(paper_holds, beats=beats), (9, 9, 9), 99)


if __name__ == "__main__":
    unittest.main()
