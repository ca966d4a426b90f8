"""Promise 18, and 2 where it is about shapers."""

import unittest
from functools import partial
from random import Random

from helpers import HUGE, Checks
from warbleline.errors import BadCount, BadTaps
from warbleline.shape import Shaper
from warbleline.wire import Wire

SHARES = ((), (1,), (-3,), (0, 2), (1, -2, 3), (3, 3, 3, 3), (-3, -3, -3, -3), (0, 0, 0, -1))


def fold(number):
    while number > 127:
        number -= 256
    while number < -128:
        number += 256
    return number


def by_words(shares, values):
    """The tones for these values, as the document has it."""
    tones = []
    for value in values:
        earlier = tones[::-1]
        left = sum(share * earlier[place] for place, share in enumerate(shares) if place < len(earlier))
        tones.append(fold(value - left))
    return tones


def drawn_values(seed, many):
    chance = Random(seed)
    return [chance.randint(-128, 127) for turn in range(many)]


class SayTest(Checks, unittest.TestCase):
    def said(self, shaper, *values):
        return [shaper.say(value) for value in values]

    def test_without_shares(self):
        self.assertEqual(self.said(Shaper(), -128, 127, 0, 5, -1), [-128, 127, 0, 5, -1])
        self.assertEqual(self.said(Shaper(()), 3, 4), [3, 4])

    def test_by_hand(self):
        self.assertEqual(self.said(Shaper((1,)), 10, 20, 30, -128, 127), [10, 10, 20, 108, 19])
        self.assertEqual(self.said(Shaper((2, -1)), 100, 100, 0, 0), [100, -100, 44, 68])
        self.assertEqual(self.said(Shaper((0, 0, 0, 3)), 127, 0, 0, 0, 1, 1), [127, 0, 0, 0, -124, 1])
        self.assertEqual(self.said(Shaper((-3,)), -128, 127, -128), [-128, -1, 125])

    def test_just_the_ends_of_the_ring(self):
        self.assertEqual(self.said(Shaper((1,)), 1, -128), [1, 127])
        self.assertEqual(self.said(Shaper((-1,)), 1, 127), [1, -128])
        self.assertEqual(self.said(Shaper((1,)), -1, 127), [-1, -128])
        self.assertEqual(self.said(Shaper((1,)), 1, -127), [1, -128])
        self.assertEqual(self.said(Shaper((1,)), -1, 126), [-1, 127])

    def test_by_words(self):
        for shares in SHARES:
            values = drawn_values(5, 200) + [-128, 127] * 5
            shaper = Shaper(shares)
            tones = [shaper.say(value=value) for value in values]
            self.assertEqual(tones, by_words(shares, values))
            self.assertLessEqual(max(tones), 127)
            self.assertGreaterEqual(min(tones), -128)
            self.assertEqual({type(tone) for tone in tones}, {int})

    def test_each_value_at_each_rest(self):
        for value in range(-128, 128):
            shaper = Shaper((1,))
            shaper.say(77)
            self.assertEqual(shaper.say(value), fold(value - 77))

    def test_over_a_wire(self):
        chance = Random(6)
        for shares in SHARES:
            shaper, wire = Shaper(shares), Wire(forth=shares)
            for value in drawn_values(7, 60) + [-128, 127]:
                noise = chance.randint(-300, 300)
                heard = wire.beat(shaper.say(value), 0, noise=(0, noise))[1]
                self.assertEqual(fold(heard), fold(value + noise))

    def test_over_a_wire_backwards(self):
        for shares in SHARES:
            shaper, wire = Shaper(shares), Wire(back=shares)
            for value in drawn_values(8, 60):
                self.assertEqual(fold(wire.beat(0, shaper.say(value))[0]), value)


class PastTest(Checks, unittest.TestCase):
    def test_new(self):
        self.assertEqual(Shaper().past(), [0, 0, 0, 0])
        self.assertEqual(Shaper((1, 2)).past(), [0, 0, 0, 0])

    def test_latest_first(self):
        shaper = Shaper((1,))
        for value, past in ((10, [10, 0, 0, 0]), (20, [10, 10, 0, 0]), (30, [20, 10, 10, 0]),
                            (-128, [108, 20, 10, 10]), (127, [19, 108, 20, 10]), (0, [-19, 19, 108, 20])):
            shaper.say(value)
            self.assertEqual(shaper.past(), past)

    def test_tones_beyond_the_shares(self):
        for shares in SHARES:
            shaper, values = Shaper(shares), drawn_values(9, 11)
            for value in values:
                shaper.say(value)
            self.assertEqual(shaper.past(), by_words(shares, values)[:-5:-1])

    def test_told_list_is_the_callers(self):
        shaper = Shaper((1, 1, 1, 1))
        for value in (5, 6, 7):
            shaper.say(value)
        told = shaper.past()
        expected = list(told)
        self.assertIs(type(told), list)
        told[:] = [99] * 9
        self.assertEqual(shaper.past(), expected)
        self.assertEqual(shaper.say(0), by_words((1, 1, 1, 1), [5, 6, 7, 0])[-1])


class RefusedTest(Checks, unittest.TestCase):
    def test_values(self):
        shaper = Shaper((2, 1))
        shaper.say(50)
        shaper.say(-3)
        before = shaper.past()
        for value in (-129, 128, 256, -256, 300, HUGE, -HUGE):
            self.refused(BadCount, shaper.say, value)
            self.assertEqual(shaper.past(), before)
        self.assertEqual(shaper.say(0), by_words((2, 1), [50, -3, 0])[-1])
        self.refused(BadCount, Shaper().say, 128)
        self.refused(BadCount, Shaper().say, -129)

    def test_bad_taps(self):
        for shares in ((4,), (-4,), (1, 2, 3, 4), (0, 0, 0, -4), (0, 4, 0, 0, 0), (0, 0, 0, 0, 1), (1, 1, 1, 1, 1),
                       (HUGE,), (0,) * 3999 + (1,)):
            self.refused(BadTaps, Shaper, shares)
            self.refused(BadTaps, partial(Shaper, shares=shares))

    def test_noughts_at_the_end(self):
        values = drawn_values(10, 12)
        for shares, kept in (((0,) * 4000, ()), ((1, -2, 0, 0, 0, 0), (1, -2)), ((3, 3, 3, 3) + (0,) * 3996, (3,) * 4)):
            shaper = Shaper(shares=shares)
            self.assertEqual([shaper.say(value) for value in values], by_words(kept, values))


class ByItselfTest(unittest.TestCase):
    def test_twin_goes_on_as_the_first_one(self):
        values = drawn_values(11, 15)
        for shares in SHARES:
            for cut in range(len(values)):
                shaper = Shaper(shares)
                for value in values[:cut]:
                    shaper.say(value)
                twin = shaper.twin()
                self.assertIs(type(twin), Shaper)
                self.assertEqual(twin.past(), shaper.past())
                for value in values[cut:]:
                    self.assertEqual(twin.say(value), shaper.say(value))

    def test_each_by_itself(self):
        shaper = Shaper((1, 3))
        shaper.say(40)
        before = shaper.past()
        twin = shaper.twin()
        twin.say(9)
        self.assertEqual(shaper.past(), before)
        twin = shaper.twin()
        shaper.say(9)
        self.assertEqual(twin.past(), before)
        self.assertEqual(Shaper((1, 3)).past(), [0, 0, 0, 0])

    def test_asking_does_nothing(self):
        shaper = Shaper((1, 3))
        shaper.say(40)
        self.assertEqual(shaper.past(), shaper.past())
        self.assertIsNot(shaper.past(), shaper.past())


if __name__ == "__main__":
    unittest.main()
