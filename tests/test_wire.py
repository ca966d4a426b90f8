"""Promise 17, and 2 where it is about wires."""

import unittest
from functools import partial
from itertools import product
from random import Random

from helpers import HUGE, Checks
from warbleline.errors import BadTaps
from warbleline.wire import Wire

PLACES = ("forth", "back", "near", "far")
SHARES = ((), (2,), (0, -1), (1, -2, 3), (-3, 0, 2, 1), (0, 0, 0, -2))


def by_words(shares, tones, noises):
    """What both ends hear at each beat, as the document has it."""
    forth, back, near, far = shares

    def ago(end, at, many):
        return tones[at - many][end] if at >= many else 0

    heard = []
    for at, noise in enumerate(noises):
        here, there = ago(1, at, 0), ago(0, at, 0)
        for place, share in enumerate(forth):
            there += share * ago(0, at, place + 1)
        for place, share in enumerate(back):
            here += share * ago(1, at, place + 1)
        for place, share in enumerate(near):
            here += share * ago(0, at, place)
        for place, share in enumerate(far):
            there += share * ago(1, at, place)
        heard.append((here + noise[0], there + noise[1]))
    return heard


def drawn_pairs(seed, many, most=999):
    chance = Random(seed)
    return [(chance.randint(-most, most), chance.randint(-most, most)) for turn in range(many)]


def wire_of(shares):
    return Wire(**dict(zip(PLACES, shares)))


class BeatTest(unittest.TestCase):
    def heard(self, wire, *tones):
        return [wire.beat(one, other) for one, other in tones]

    def test_bare_wire(self):
        self.assertEqual(self.heard(Wire(), (5, 7), (0, 0), (-128, 127)), [(7, 5), (0, 0), (127, -128)])

    def test_forth_by_hand(self):
        wire = Wire(forth=(2, -1, 3, -3))
        heard = self.heard(wire, (10, 0), (1, 0), (0, 0), (0, 0), (0, 0), (0, 0))
        self.assertEqual(heard, [(0, 10), (0, 21), (0, -8), (0, 29), (0, -27), (0, -3)])
        self.assertEqual(self.heard(wire, (0, 0)), [(0, 0)])

    def test_back_by_hand(self):
        wire = Wire(back=(1, 0, -2))
        heard = self.heard(wire, (0, 100), (0, 7), (0, 0), (0, 0), (0, 0), (0, 0))
        self.assertEqual(heard, [(100, 0), (107, 0), (7, 0), (-200, 0), (-14, 0), (0, 0)])

    def test_near_by_hand(self):
        wire = Wire(near=(3, -1, 0, 2))
        heard = self.heard(wire, (10, 0), (1, 0), (0, 0), (0, 0), (0, 0), (0, 0))
        self.assertEqual(heard, [(30, 10), (-7, 1), (-1, 0), (20, 0), (2, 0), (0, 0)])

    def test_far_by_hand(self):
        wire = Wire(far=(0, 1))
        heard = self.heard(wire, (0, 10), (0, -4), (0, 0), (0, 0))
        self.assertEqual(heard, [(10, 0), (-4, 10), (0, -4), (0, 0)])

    def test_all_four_by_hand(self):
        wire = Wire(forth=(1, -2), back=(3,), near=(-1,), far=(2, 0, 1))
        self.assertEqual(wire.beat(10, 100, noise=(1, 2)), (100 - 10 + 1, 10 + 200 + 2))
        self.assertEqual(wire.beat(20, 50, noise=(-5, 0)), (50 + 300 - 20 - 5, 20 + 10 + 100))
        self.assertEqual(wire.beat(30, 0), (0 + 150 - 30, 30 + 20 - 20 + 0 + 100))
        self.assertEqual(wire.beat(0, 0, noise=(0, 9)), (0, 0 + 30 - 40 + 50 + 9))

    def test_the_fourth_earlier_tone_is_the_last(self):
        wire = Wire(forth=(0, 0, 0, 3), back=(0, 0, 0, -3), near=(0, 0, 0, 1), far=(0, 0, 0, -1))
        heard = self.heard(wire, (1, 10), *[(0, 0)] * 6)
        self.assertEqual(heard, [(10, 1), (0, 0), (0, 0), (1, -10), (-30, 3), (0, 0), (0, 0)])

    def test_noise(self):
        self.assertEqual(Wire().beat(1, 2), (2, 1))
        self.assertEqual(Wire().beat(1, 2, noise=(0, 0)), (2, 1))
        self.assertEqual(Wire().beat(1, 2, noise=(30, -40)), (32, -39))
        self.assertEqual(Wire().beat(one=1, other=2, noise=(-HUGE, HUGE)), (2 - HUGE, 1 + HUGE))
        with self.assertRaises(TypeError):
            Wire().beat(1, 2, (3, 4))

    def test_noise_is_not_kept(self):
        wire = Wire(forth=(3, 3, 3, 3), back=(3, 3, 3, 3), near=(3, 3, 3, 3), far=(3, 3, 3, 3))
        wire.beat(0, 0, noise=(500, -700))
        self.assertEqual(wire, Wire(forth=(3, 3, 3, 3), back=(3, 3, 3, 3), near=(3, 3, 3, 3), far=(3, 3, 3, 3)))
        self.assertEqual(wire.beat(0, 0), (0, 0))

    def test_great_tones(self):
        wire = Wire(forth=(-3,), near=(3,))
        self.assertEqual(wire.beat(HUGE, -HUGE), (2 * HUGE, HUGE))
        self.assertEqual(wire.beat(0, 0), (0, -3 * HUGE))

    def test_many_shares(self):
        for shares in product(SHARES, repeat=4):
            tones = drawn_pairs(len(str(shares)), 9)
            noises = drawn_pairs(17, 9)
            wire = wire_of(shares)
            heard = [wire.beat(one, other, noise=noise) for (one, other), noise in zip(tones, noises)]
            self.assertEqual(heard, by_words(shares, tones, noises))
            for both in heard:
                self.assertIs(type(both), tuple)

    def test_hush(self):
        shares = ((1, 2, 3, -1), (-3, 1), (2, 2, 2, 2), (1, 1, -1, 3))
        wire = wire_of(shares)
        tones, noises = drawn_pairs(3, 7), [(0, 0)] * 7
        for one, other in drawn_pairs(4, 6):
            wire.beat(one, other)
        self.assertIsNone(wire.hush())
        self.assertEqual(wire, wire_of(shares))
        self.assertEqual([wire.beat(one, other) for one, other in tones], by_words(shares, tones, noises))

    def test_hush_of_a_new_wire(self):
        wire = Wire(far=(1, 2))
        wire.hush()
        wire.hush()
        self.assertEqual(wire, Wire(far=(1, 2)))


class SharesTest(Checks, unittest.TestCase):
    def test_left_out(self):
        self.assertEqual(Wire().shares(), ((), (), (), ()))
        self.assertEqual(Wire(near=(1,)).shares(), ((), (), (1,), ()))

    def test_only_by_their_names(self):
        with self.assertRaises(TypeError):
            Wire((1,))

    def test_order(self):
        wire = Wire(far=(0, 0, 0, 1), near=(-3, 3), back=(2,), forth=(1, -2))
        self.assertEqual(wire.shares(), ((1, -2), (2,), (-3, 3), (0, 0, 0, 1)))

    def test_noughts_at_the_end(self):
        for place in PLACES:
            at = PLACES.index(place)
            for handed, kept in (((0,), ()), ((0, 0, 0, 0), ()), ((0,) * 5, ()), ((0,) * 4000, ()), ((1, 0), (1,)),
                                 ((0, 2, 0), (0, 2)), ((1, 2, 3, -3, 0), (1, 2, 3, -3)), ((3,) + (0,) * 3999, (3,)),
                                 ((1, 0, 0, 1) + (0,) * 3996, (1, 0, 0, 1)), ((0, 0, 0, 1), (0, 0, 0, 1))):
                shares = Wire(**{place: handed}).shares()
                self.assertEqual(shares[at], kept)
                self.assertEqual(shares, tuple(kept if turn == at else () for turn in range(4)))
                self.assertIs(type(shares[at]), tuple)

    def test_all_numbers(self):
        for place in PLACES:
            for number in (-3, -2, -1, 1, 2, 3):
                for many in range(4):
                    handed = (0,) * many + (number,)
                    self.assertEqual(Wire(**{place: handed}).shares()[PLACES.index(place)], handed)

    def test_bad_taps(self):
        for place in PLACES:
            for number in (4, -4, 5, HUGE, -HUGE):
                for many in range(4):
                    for behind in ((), (0,), (1,), (0,) * 50):
                        self.refused(BadTaps, partial(Wire, **{place: (1,) * many + (number,) + behind}))
            for handed in ((1, 1, 1, 1, 1), (0, 0, 0, 0, 1), (0, 0, 0, 0, -3, 0), (0,) * 3999 + (1,), (1, 2) * 2000):
                self.refused(BadTaps, partial(Wire, **{place: handed}))

    def test_bad_taps_in_one_place_of_four(self):
        for place in PLACES:
            handed = {name: (1, 2, 3, -3) for name in PLACES}
            Wire(**handed)
            self.refused(BadTaps, partial(Wire, **{**handed, place: (1, 4)}))

    def test_asked_again(self):
        wire = Wire(forth=(1, 0), far=(2,))
        self.assertEqual(wire.shares(), wire.shares())
        wire.beat(5, 6)
        self.assertEqual(wire.shares(), ((1,), (), (), (2,)))


class EqualTest(unittest.TestCase):
    def same(self, one, other):
        self.assertTrue(one == other)
        self.assertTrue(other == one)
        self.assertFalse(one != other)
        self.assertFalse(other != one)

    def unlike(self, one, other):
        self.assertFalse(one == other)
        self.assertFalse(other == one)
        self.assertTrue(one != other)
        self.assertTrue(other != one)

    def test_shares(self):
        self.same(Wire(), Wire())
        self.same(Wire(forth=(1, 0)), Wire(forth=(1,)))
        self.same(Wire(near=(0, 0)), Wire())
        for place in PLACES:
            self.unlike(Wire(**{place: (1,)}), Wire())
            self.unlike(Wire(**{place: (1,)}), Wire(**{place: (0, 1)}))
            for other in PLACES:
                if other != place:
                    self.unlike(Wire(**{place: (1,)}), Wire(**{other: (1,)}))

    def test_tones(self):
        for at in range(4):
            for end in (0, 1):
                one, other = Wire(), Wire()
                for beat in range(4):
                    one.beat(5, 6)
                    tones = [5, 6]
                    tones[end] += 1 if beat == at else 0
                    other.beat(*tones)
                self.unlike(one, other)
                for beat in range(at):
                    one.beat(0, 0)
                    other.beat(0, 0)
                    self.unlike(one, other)
                one.beat(0, 0)
                other.beat(0, 0)
                self.same(one, other)

    def test_ends_are_not_mixed(self):
        one, other = Wire(), Wire()
        one.beat(1, 2)
        other.beat(2, 1)
        self.unlike(one, other)

    def test_earlier_tones_do_not_count(self):
        one, other = Wire(forth=(1,)), Wire(forth=(1,))
        for tone in (9, 8, 7):
            one.beat(tone, -tone)
        self.unlike(one, other)
        for tone in (1, 2, 3, 4):
            one.beat(tone, tone + 1)
            other.beat(tone, tone + 1, noise=(55, 66))
        self.same(one, other)

    def test_noughts_are_as_tones_that_there_were_not(self):
        one = Wire()
        for beat in range(3):
            one.beat(0, 0)
        self.same(one, Wire())

    def test_nothing_else(self):
        wire = Wire(forth=(1,))
        for thing in (None, 0, "", wire.shares(), [], repr(wire), ((1,), (), (), ()), object()):
            self.unlike(wire, thing)
        self.assertNotIn(wire, [wire.shares(), repr(wire)])

    def test_repr(self):
        self.assertEqual(repr(Wire(forth=(1, -2), near=(3,))), "Wire((1, -2), (), (3,), ())")
        self.assertEqual(repr(Wire()), "Wire((), (), (), ())")
        wire = Wire(far=(0, 0, 0, -3), back=(1, 0))
        wire.beat(3, 4)
        self.assertEqual(repr(wire), "Wire((), (1,), (), (0, 0, 0, -3))")
        self.assertEqual(str(wire), repr(wire))


class ByItselfTest(unittest.TestCase):
    shares = ((1, 2, 3, -1), (-3, 1), (2, 2, 2, 2), (1, 1, -1, 3))

    def test_twin_goes_on_as_the_first_one(self):
        tones = drawn_pairs(8, 12)
        for cut in range(len(tones) + 1):
            wire = wire_of(self.shares)
            for one, other in tones[:cut]:
                wire.beat(one, other)
            twin = wire.twin()
            self.assertIs(type(twin), Wire)
            self.assertEqual(twin, wire)
            self.assertEqual(twin.shares(), wire.shares())
            for one, other in tones[cut:]:
                self.assertEqual(twin.beat(one, other), wire.beat(one, other))

    def test_wire_and_twin_each_by_itself(self):
        wire = wire_of(self.shares)
        wire.beat(1, 2)
        twin, kept = wire.twin(), wire.twin()
        twin.beat(3, 4)
        self.assertEqual(wire, kept)
        self.assertNotEqual(twin, kept)
        twin = wire.twin()
        wire.beat(7, 7)
        self.assertEqual(twin, kept)
        twin = wire.twin()
        twin.hush()
        self.assertNotEqual(wire, twin)
        twin = wire.twin()
        wire.hush()
        self.assertEqual(wire, wire_of(self.shares))
        self.assertNotEqual(twin, wire)

    def test_two_wires(self):
        one, other = Wire(forth=(1,)), Wire(forth=(1,))
        one.beat(5, 5)
        self.assertEqual(other.beat(0, 0), (0, 0))

    def test_asking_does_nothing(self):
        wire = wire_of(self.shares)
        wire.beat(1, 2)
        kept = wire.twin()
        wire.shares()
        repr(wire)
        wire.twin()
        self.assertTrue(wire == kept and kept == wire)


if __name__ == "__main__":
    unittest.main()
