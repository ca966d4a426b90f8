"""Promises 4 and 5, and 2 where it is about these functions."""

import unittest
from itertools import combinations

from helpers import HUGE, Checks, some_rows
from warbleline.errors import BadBit
from warbleline.seal import SEAL, holds, seal_of, sealed

# Worked out by hand: as long as ones come in, the front is 0 and the ones at first move out.
BY_HAND = (
    ([], [1] * 16),
    ([1], [1] * 15 + [0]),
    ([1, 1, 1], [1] * 13 + [0] * 3),
    ([1] * 16, [0] * 16),
    ([1] * 16 + [0], [0] * 16),
    ([1] * 17, [0, 0, 0, 1, 0, 0, 0, 0, 0, 0, 1, 0, 0, 0, 0, 1]),
    ([1] * 17 + [0], [0, 0, 1, 0, 0, 0, 0, 0, 0, 1, 0, 0, 0, 0, 1, 0]),
    ([1] * 17 + [1], [0, 0, 1, 1, 0, 0, 0, 0, 0, 1, 1, 0, 0, 0, 1, 1]),
    ([0], [1, 1, 1, 0, 1, 1, 1, 1, 1, 1, 0, 1, 1, 1, 1, 1]),
    ([0, 0], [1, 1, 0, 0, 1, 1, 1, 1, 1, 0, 0, 1, 1, 1, 1, 1]),
    ([0, 1], [1, 1, 0, 1, 1, 1, 1, 1, 1, 0, 1, 1, 1, 1, 1, 0]),
)


def turned(row, places):
    return [1 - bit if at in places else bit for at, bit in enumerate(row)]


class SealTest(Checks, unittest.TestCase):
    def test_length(self):
        self.assertEqual(SEAL, 16)

    def test_by_hand(self):
        for row, seal in BY_HAND:
            with self.subTest(row):
                self.tells(seal_of, row, seal)
                self.tells(sealed, row, row + seal)
                self.assertIs(holds(row + seal), True)

    def test_a_known_sum(self):
        # The published check value of this sum for the signs 1 to 9, each bit of least worth first.
        row = [ord(sign) >> place & 1 for sign in "123456789" for place in range(8)]
        self.assertEqual(seal_of(row), [0x6F91 >> place & 1 for place in range(16)])

    def test_by_name(self):
        self.assertEqual(sealed(bits=[1]), [1] + seal_of(bits=[1]))
        self.assertIs(holds(bits=sealed([1])), True)

    def test_longest_list(self):
        row = some_rows(1, [4000])[0]
        self.assertEqual(len(seal_of(row)), 16)
        self.assertEqual(sealed(row)[:4000], row)
        self.assertIs(holds(sealed(row)), True)

    def test_bad_bit(self):
        for call in (seal_of, sealed, holds):
            for wrong in (2, -1, HUGE, -HUGE):
                self.refused(BadBit, call, [wrong], at=0)
                self.refused(BadBit, call, [wrong] + [0] * 40, at=0)
                self.refused(BadBit, call, [1] * 40 + [wrong], at=40)
                self.refused(BadBit, call, [1] * 5 + [wrong, 2, -2] + [0] * 20, at=5)
                self.refused(BadBit, call, [1] * 25 + [wrong, 2, -2], at=25)


class HoldsTest(Checks, unittest.TestCase):
    rows = some_rows(2, [0, 1, 2, 5, 16, 17, 40, 100])

    def test_sealed_rows(self):
        for row in self.rows:
            handed = sealed(row)
            before = list(handed)
            self.assertIs(holds(handed), True)
            self.assertIs(holds(handed), True)
            self.assertEqual(handed, before)

    def test_a_bit_turned(self):
        for row in self.rows:
            whole = sealed(row)
            for at in range(len(whole)):
                self.assertIs(holds(turned(whole, [at])), False)

    def is_by_words(self, row):
        return len(row) >= 16 and row[-16:] == seal_of(row[:-16])

    def test_a_bit_put_in_or_left_out(self):
        for row in self.rows[2:]:
            whole = sealed(row)
            changed = [whole[:at] + whole[at + 1:] for at in range(len(whole))]
            changed += [whole[:at] + [bit] + whole[at:] for at in range(len(whole) + 1) for bit in (0, 1)]
            found = [holds(other) for other in changed]
            self.assertEqual(found, [self.is_by_words(other) for other in changed])
            self.assertIn(False, found)

    def test_rows_by_hand(self):
        # Ones move out of the cells at first, so that sixteen of them are the empty row sealed.
        self.assertIs(holds([1] * 16), True)
        self.assertIs(holds([1] * 15 + [0]), False)
        self.assertIs(holds([1] * 17), False)
        self.assertIs(holds([0] + [1] * 16), False)
        self.assertIs(holds([0] * 16), False)
        self.assertIs(holds([1] * 15 + [0] * 16), False)
        # Where all cells are 0 a 0 changes nothing: put in at its end, it leaves a sealed row sealed.
        self.assertIs(holds([1] * 16 + [0]), True)
        self.assertIs(holds([1] * 16 + [0] * 16), True)

    def test_shorter_than_the_seal(self):
        for length in range(16):
            for bit in (0, 1):
                self.assertIs(holds([bit] * length), False)
        for row in self.rows:
            self.assertIs(holds(sealed(row)[:15]), False)


class GuardedTest(unittest.TestCase):
    def test_one_two_or_three_places(self):
        for row in some_rows(3, [0, 1, 9, 24]):
            whole = sealed(row)
            for many in (1, 2, 3):
                for places in combinations(range(len(whole)), many):
                    self.assertFalse(holds(turned(whole, places)), (row, places))

    def test_places_far_apart(self):
        for row in some_rows(4, [256, 1000]):
            whole = sealed(row)
            end = len(whole) - 1
            for at in range(1, end, 7):
                self.assertFalse(holds(turned(whole, [at])))
                self.assertFalse(holds(turned(whole, [0, at])))
                self.assertFalse(holds(turned(whole, [at, end])))
                self.assertFalse(holds(turned(whole, [0, at, end])))

    def test_sixteen_places_beside_one_another(self):
        whole = sealed(some_rows(5, [12])[0])
        for begin in (0, 1, 5, 11, 12):
            for pattern in range(1, 2 ** 16, 37):
                places = [begin + place for place in range(16) if pattern >> place & 1]
                self.assertFalse(holds(turned(whole, places)), places)

    def test_all_patterns_at_one_place(self):
        whole = sealed([1, 0, 1])
        for pattern in range(1, 2 ** 16):
            places = [3 + place for place in range(16) if pattern >> place & 1]
            self.assertFalse(holds(turned(whole, places)), places)

    def test_beyond_these_bounds(self):
        # A turned bit and what it turns in the cells: four places, seventeen beside one another.
        whole = sealed(some_rows(6, [30])[0])
        self.assertTrue(holds(turned(whole, [4, 8, 15, 20])))


if __name__ == "__main__":
    unittest.main()
