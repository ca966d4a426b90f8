"""Promises 6 and 7, and 2 where it is about these functions."""

import unittest

from helpers import HUGE, Checks, some_rows
from warbleline.errors import BadBit, BadCount, BadFrame, TooLong
from warbleline.frames import LONGEST, MARK, MOST_OPEN, framed, stuffed, unstuffed
from warbleline.seal import sealed

WRONG_BITS = (2, -1, HUGE, -HUGE)

STUFFED = (
    ([0], [0]),
    ([1], [1]),
    ([1] * 4, [1] * 4),
    ([1] * 5, [1] * 5 + [0]),
    ([1] * 6, [1] * 5 + [0, 1]),
    ([1] * 9, [1] * 5 + [0] + [1] * 4),
    ([1] * 10, ([1] * 5 + [0]) * 2),
    ([1] * 11, ([1] * 5 + [0]) * 2 + [1]),
    ([1] * 5 + [0], [1] * 5 + [0, 0]),
    ([1] * 5 + [0] + [1] * 5, [1] * 5 + [0, 0] + [1] * 5 + [0]),
    ([1] * 4 + [0] + [1] * 4, [1] * 4 + [0] + [1] * 4),
    ([0, 0] + [1] * 5, [0, 0] + [1] * 5 + [0]),
    ([0, 1, 1, 1, 1, 1, 1, 0], [0, 1, 1, 1, 1, 1, 0, 1, 0]),
)


class ValuesTest(unittest.TestCase):
    def test_values(self):
        self.assertEqual((LONGEST, MOST_OPEN), (256, 400))
        self.assertEqual(MARK, (0, 1, 1, 1, 1, 1, 1, 0))
        self.assertIs(type(MARK), tuple)


class StuffedTest(Checks, unittest.TestCase):
    def test_by_hand(self):
        for row, stuff in STUFFED:
            with self.subTest(row):
                self.tells(stuffed, row, stuff)
                self.tells(unstuffed, stuff, row)

    def test_empty(self):
        self.assertEqual(stuffed([]), [])
        self.assertEqual(unstuffed([]), [])
        self.assertIsNot(stuffed([]), stuffed([]))
        self.assertIsNot(unstuffed([]), unstuffed([]))

    def test_by_name(self):
        self.assertEqual(unstuffed(bits=stuffed(bits=[1] * 6)), [1] * 6)

    def test_there_and_back(self):
        for row in some_rows(11, range(300)) + [[1] * length for length in range(60)] + [[1] * 4000]:
            stuff = stuffed(row)
            self.assertNotIn("111111", "".join(str(bit) for bit in stuff))
            self.assertEqual(unstuffed(stuff), row)

    def test_only_what_is_stuffed_is_unstuffed(self):
        def bits_of_length(length):
            return [[number >> place & 1 for place in range(length)] for number in range(2 ** length)]
        rows = {tuple(stuffed(row)): row for length in range(12) for row in bits_of_length(length)}
        for length in range(12):
            for stuff in bits_of_length(length):
                if tuple(stuff) in rows:
                    self.assertEqual(unstuffed(stuff), rows[tuple(stuff)])
                else:
                    self.refused(BadFrame, unstuffed, stuff)

    def test_a_sixth_one(self):
        self.refused(BadFrame, unstuffed, [1] * 6, at=5)
        self.refused(BadFrame, unstuffed, [1] * 7, at=5)
        self.refused(BadFrame, unstuffed, [0] + [1] * 6 + [0], at=6)
        self.refused(BadFrame, unstuffed, [1] * 5 + [0] + [1] * 6, at=11)
        self.refused(BadFrame, unstuffed, [1, 0] + [1] * 6 + [0] + [1] * 6, at=7)
        self.refused(BadFrame, unstuffed, [0] * 3994 + [1] * 6, at=3999)

    def test_a_lacking_nought_at_the_end(self):
        self.refused(BadFrame, unstuffed, [1] * 5, at=5)
        self.refused(BadFrame, unstuffed, [0, 0] + [1] * 5, at=7)
        self.refused(BadFrame, unstuffed, [1] * 5 + [0] + [1] * 5, at=11)
        self.refused(BadFrame, unstuffed, [0] * 3995 + [1] * 5, at=4000)

    def test_bad_bit(self):
        for call in (stuffed, unstuffed):
            for wrong in WRONG_BITS:
                self.refused(BadBit, call, [wrong], at=0)
                self.refused(BadBit, call, [0, 1, wrong], at=2)
                self.refused(BadBit, call, [0, wrong, 1, 2, -7], at=1)

    def test_bad_bit_ahead_of_bad_frame(self):
        for wrong in WRONG_BITS:
            self.refused(BadBit, unstuffed, [1] * 6 + [wrong], at=6)
            self.refused(BadBit, unstuffed, [1] * 5 + [wrong], at=5)
            self.refused(BadBit, unstuffed, [wrong] + [1] * 5, at=0)


class FramedTest(Checks, unittest.TestCase):
    def test_by_hand(self):
        # The seal of [1] is fifteen 1 and a 0: sixteen 1 in a row, and a 0, are stuffed.
        stuff = [1, 1, 1, 1, 1, 0] * 3 + [1, 0]
        self.tells(framed, [1], [0, 1, 1, 1, 1, 1, 1, 0] + stuff + [0, 1, 1, 1, 1, 1, 1, 0])

    def test_from_one_to_longest(self):
        for payload in some_rows(12, [1, 2, 7, 8, 100, 255, 256]) + [[0], [1] * 256, [0] * 256]:
            mark = [0, 1, 1, 1, 1, 1, 1, 0]
            self.tells(framed, payload, mark + stuffed(sealed(payload)) + mark)
        self.assertEqual(framed(payload=[0]), framed([0]))

    def test_refusals(self):
        self.refused(BadCount, framed, [])
        self.refused(TooLong, framed, [0] * 257, most=256)
        self.refused(TooLong, framed, [1] * 4000, most=256)
        for wrong in WRONG_BITS:
            self.refused(BadBit, framed, [wrong], at=0)
            self.refused(BadBit, framed, [1, 0, wrong, 3], at=2)

    def test_bad_bit_ahead_of_too_long(self):
        self.refused(BadBit, framed, [0] * 257 + [2], at=257)
        self.refused(BadBit, framed, [-1] + [0] * 257, at=0)


if __name__ == "__main__":
    unittest.main()
