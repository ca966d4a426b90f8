"""Promise 3, and 2 where it is about these functions."""

import unittest

from helpers import HUGE, Checks
from warbleline.bits import bits_number, bits_of, bytes_of, number_bits
from warbleline.errors import BadBit, BadByte, BadCount

WRONG_BITS = (2, -1, 10, HUGE, -HUGE)
WRONG_BYTES = (256, -1, 1000, HUGE, -HUGE)


class BytesTest(Checks, unittest.TestCase):
    def test_greatest_worth_first(self):
        self.tells(bits_of, [1], [0, 0, 0, 0, 0, 0, 0, 1])
        self.tells(bits_of, [128], [1, 0, 0, 0, 0, 0, 0, 0])
        self.tells(bits_of, [0, 255, 77], [0] * 8 + [1] * 8 + [0, 1, 0, 0, 1, 1, 0, 1])
        self.tells(bytes_of, [0] * 8 + [1] * 8 + [0, 1, 0, 0, 1, 1, 0, 1], [0, 255, 77])

    def test_empty(self):
        self.assertEqual(bits_of([]), [])
        self.assertEqual(bytes_of([]), [])
        self.assertIsNot(bits_of([]), bits_of([]))
        self.assertIsNot(bytes_of([]), bytes_of([]))

    def test_there_and_back(self):
        row = list(range(256))
        self.assertEqual(len(bits_of(row)), 2048)
        self.assertEqual(bytes_of(bits_of(row)), row)
        for byte in row:
            self.tells(bits_of, [byte], [int(sign) for sign in format(byte, "08b")])

    def test_longest_lists(self):
        self.assertEqual(bits_of([255] * 4000), [1] * 32000)
        self.assertEqual(bytes_of([0, 0, 0, 0, 0, 0, 1, 1] * 500), [3] * 500)

    def test_by_name(self):
        self.assertEqual(bytes_of(bits=bits_of(row=[9])), [9])

    def test_bad_byte(self):
        for wrong in WRONG_BYTES:
            self.refused(BadByte, bits_of, [wrong], at=0)
            self.refused(BadByte, bits_of, [wrong, 0, 255], at=0)
            self.refused(BadByte, bits_of, [0, 255, wrong], at=2)
            self.refused(BadByte, bits_of, [0, wrong, 255, 300, -5], at=1)

    def test_bad_bit(self):
        for wrong in WRONG_BITS:
            self.refused(BadBit, bytes_of, [wrong] + [0] * 7, at=0)
            self.refused(BadBit, bytes_of, [1] * 7 + [wrong], at=7)
            self.refused(BadBit, bytes_of, [1] * 9 + [wrong, 3, -1] + [0] * 4, at=9)

    def test_bytes_of_wrong_length(self):
        for length in (1, 7, 9, 15, 17, 63, 3999):
            self.refused(BadCount, bytes_of, [1] * length)

    def test_bad_bit_ahead_of_wrong_length(self):
        self.refused(BadBit, bytes_of, [2], at=0)
        self.refused(BadBit, bytes_of, [0] * 8 + [5], at=8)


class NumbersTest(Checks, unittest.TestCase):
    def written(self, number, many, expected):
        self.tells(lambda pair: number_bits(*pair), [number, many], expected)
        self.assertEqual(bits_number(expected), number)

    def test_ordinary(self):
        self.written(0, 1, [0])
        self.written(1, 1, [1])
        self.written(6, 3, [1, 1, 0])
        self.written(6, 5, [0, 0, 1, 1, 0])
        self.written(8, 4, [1, 0, 0, 0])
        self.assertEqual(number_bits(many=2, number=1), [0, 1])

    def test_no_bits(self):
        self.assertEqual(number_bits(0, 0), [])
        self.assertIsNot(number_bits(0, 0), number_bits(0, 0))
        self.assertEqual(bits_number([]), 0)
        for number in (1, 2, -1, HUGE):
            self.refused(BadCount, number_bits, number, 0)

    def test_sixty_four_bits(self):
        self.written(0, 64, [0] * 64)
        self.written(18446744073709551615, 64, [1] * 64)
        self.written(9223372036854775808, 64, [1] + [0] * 63)
        self.refused(BadCount, number_bits, 18446744073709551616, 64)
        self.refused(BadCount, number_bits, HUGE, 64)

    def test_greatest_number_and_one_more(self):
        for many in range(65):
            greatest = sum(2 ** place for place in range(many))
            self.assertEqual(number_bits(greatest, many), [1] * many)
            self.assertEqual(bits_number([1] * many), greatest)
            self.refused(BadCount, number_bits, greatest + 1, many)

    def test_below_nought(self):
        for many in (0, 1, 8, 64):
            for number in (-1, -2, -255, -HUGE):
                self.refused(BadCount, number_bits, number, many)

    def test_many_outside_its_bounds(self):
        for many in (-1, 65, -65, 1000, HUGE, -HUGE):
            for number in (0, 1, -1, HUGE):
                self.refused(BadCount, number_bits, number, many)

    def test_bits_number(self):
        self.assertEqual(bits_number(bits=[1, 0, 1]), 5)
        self.assertEqual(bits_number([0] * 64), 0)
        self.assertEqual(bits_number([0] * 63 + [1]), 1)
        handed = [1, 1, 0]
        self.assertEqual(bits_number(handed), 6)
        self.assertEqual(handed, [1, 1, 0])
        self.refused(BadCount, bits_number, [0] * 65)
        self.refused(BadCount, bits_number, [1] * 4000)

    def test_bits_number_bad_bit(self):
        for wrong in WRONG_BITS:
            self.refused(BadBit, bits_number, [wrong], at=0)
            self.refused(BadBit, bits_number, [0, 1, wrong], at=2)
            self.refused(BadBit, bits_number, [0, wrong, 1, 7, -3], at=1)

    def test_bad_bit_ahead_of_too_many(self):
        self.refused(BadBit, bits_number, [0] * 65 + [2], at=65)
        self.refused(BadBit, bits_number, [-1] + [0] * 65, at=0)


if __name__ == "__main__":
    unittest.main()
