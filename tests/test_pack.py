"""Promise 12, and 2 where it is about packing and unpacking."""

import unittest
from random import Random

from helpers import HUGE, Checks, book_of_rows, full_book
from warbleline.bits import bits_of
from warbleline.book import Book
from warbleline.errors import BadBit, BadByte, BadCode, BadFrame, TooLong

WRONG_BITS = (2, -1, HUGE, -HUGE)


def written(numbers, many):
    """The bits of these numbers, by texts."""
    return [int(sign) for number in numbers for sign in format(number, f"0{many}b")]


def by_numbers(codes):
    return [1] + written(codes, 9)


def by_bytes(row):
    return [0] + written(row, 8)


class PackTest(Checks, unittest.TestCase):
    def packs(self, row, bits):
        """The bits of a new book's row, what it learns, and the row back with the books alike behind it."""
        here, there = Book(), Book()
        handed = list(row)
        self.assertEqual(here.pack(handed), bits)
        self.assertEqual(handed, row)
        self.assertEqual(here, book_of_rows(row))
        handed = list(bits)
        self.assertEqual(there.unpack(handed), row)
        self.assertEqual(handed, bits)
        self.assertEqual(here, there)

    def test_by_hand(self):
        self.packs([97, 97, 97, 97], [1] + [0, 0, 1, 1, 0, 0, 0, 0, 1] * 2 + [1, 0, 0, 0, 0, 0, 0, 0, 0])
        self.packs([97, 98], [0] + [0, 1, 1, 0, 0, 0, 0, 1] + [0, 1, 1, 0, 0, 0, 1, 0])
        self.packs([255], [0] + [1] * 8)

    def test_empty_row(self):
        self.packs([], [0])
        book = full_book()
        self.assertEqual(book.pack([]), [0])
        self.assertEqual(len(book), 0)
        book = full_book()
        self.assertEqual(book.unpack([0]), [])
        self.assertEqual(len(book), 0)

    def test_fewer_bits_by_numbers(self):
        # Ten bytes in eight numbers: 72 bits and 80.
        self.packs([1, 2, 1, 2, 3, 1, 2, 4, 5, 6], by_numbers([1, 2, 256, 3, 256, 4, 5, 6]))
        self.packs([7] * 60, by_numbers(Book().shorten([7] * 60)))

    def test_alike_in_length(self):
        # Nine bytes in eight numbers: 72 bits either way, so bytes.
        row = [1, 2, 1, 2, 3, 4, 5, 6, 7]
        self.assertEqual(Book().shorten(row), [1, 2, 256, 3, 4, 5, 6, 7])
        self.packs(row, by_bytes(row))

    def test_more_bits_by_numbers(self):
        for row in ([1], [1, 2, 3], [0, 255] * 2 + list(range(1, 40)), list(range(60))):
            self.packs(row, by_bytes(row))

    def test_one_number_of_two_bytes(self):
        book = book_of_rows([1, 2])
        self.assertEqual(book.pack([1, 2]), by_numbers([256]))
        self.assertEqual(book.pack([1]), by_bytes([1]))

    def test_learns_either_way(self):
        for row in ([1, 2, 3], [1, 1, 1, 1, 1, 1]):
            book = Book()
            book.pack(row)
            self.assertEqual(book, book_of_rows(row))
            self.assertGreater(len(book), 0)

    def test_refused_as_shorten_does(self):
        for wrong in (256, -1, HUGE, -HUGE):
            self.refused(BadByte, Book().pack, [wrong], at=0)
            self.refused(BadByte, Book().pack, [4, wrong, -1], at=1)
            self.refused(BadByte, Book().pack, [4] * 60 + [wrong], at=60)
        self.refused(TooLong, Book().pack, [4] * 61, most=60)
        self.refused(TooLong, Book().pack, list(range(61)), most=60)
        self.assertEqual(Book().pack(list(range(60))), by_bytes(list(range(60))))

    def test_there_and_back(self):
        chance = Random(51)
        here, there = Book(), Book()
        ways = {0: 0, 1: 0}
        beginnings = 0
        for turn in range(500):
            used = chance.choice(([9], [1, 2], list(range(10)), list(range(256))))
            row = [chance.choice(used) for place in range(chance.choice((0, 1, 9, 10, 30, 60)))]
            codes = here.twin().shorten(row)
            beginnings += len(here) == 44
            bits = here.pack(row)
            ways[bits[0]] += 1
            self.assertEqual(bits, min(by_bytes(row), by_numbers(codes), key=len))
            self.assertEqual(there.unpack(bits), row)
            self.assertEqual(here, there)
        self.assertGreater(min(beginnings, ways[0], ways[1]), 10)


class UnpackTest(Checks, unittest.TestCase):
    def test_numbers_where_bytes_are_fewer_bits(self):
        for row in ([], [1], [1, 2, 3], list(range(60))):
            book = Book()
            self.assertEqual(book.unpack(by_numbers(Book().shorten(row))), row)
            self.assertEqual(book, book_of_rows(row))

    def test_bytes_where_numbers_are_fewer_bits(self):
        for row in ([5] * 4, [5] * 60, [1, 2] * 20):
            book = Book()
            self.assertEqual(book.unpack(by_bytes(row)), row)
            self.assertEqual(book, book_of_rows(row))

    def test_learns_from_the_numbers_that_stand_there(self):
        # By numbers of single bytes the book learns otherwise than it would by shortening the row.
        book = book_of_rows([1, 2, 1])
        self.assertEqual(book.unpack(by_numbers([1, 2, 1, 2])), [1, 2, 1, 2])
        self.assertEqual(book.learnt(), [(1, 2), (2, 1)])
        book = book_of_rows([1, 2, 1])
        self.assertEqual(book.unpack(by_bytes([1, 2, 1, 2])), [1, 2, 1, 2])
        self.assertEqual(book.learnt(), [(1, 2), (2, 1), (1, 2, 1)])

    def test_no_numbers(self):
        book = full_book()
        self.assertEqual(book.unpack([1]), [])
        self.assertEqual(len(book), 0)

    def test_full_books(self):
        for row in ([], [100], [100, 101, 100, 101]):
            here = full_book()
            here.shorten(row)
            there = full_book()
            self.assertEqual(there.unpack(by_bytes(row)), row)
            self.assertEqual(here, there)
            there = full_book()
            self.assertEqual(there.unpack(by_numbers(Book().shorten(row))), row)
            self.assertEqual(here, there)


class RefusedTest(Checks, unittest.TestCase):
    def refuses(self, kind, bits, **values):
        """Refused by a new, a used and a full book, and each is as it was."""
        for make in (Book, lambda: book_of_rows([200, 201, 200]), full_book):
            book = make()
            self.refused(kind, book.unpack, bits, **values)
            self.assertEqual(book.learnt(), make().learnt())
            self.assertEqual(book.unpack(by_bytes([7, 8])), [7, 8])
            self.assertEqual(book.learnt()[-1], (7, 8))

    def test_bad_bit(self):
        for wrong in WRONG_BITS:
            self.refuses(BadBit, [wrong], at=0)
            self.refuses(BadBit, [0, wrong], at=1)
            self.refuses(BadBit, [0] * 8 + [wrong, 7], at=8)
            self.refuses(BadBit, by_numbers([1, 2]) + [wrong], at=19)

    def test_bad_bit_ahead_of_all_else(self):
        for wrong in WRONG_BITS:
            self.refuses(BadBit, by_bytes([1, 2]) + [0, wrong], at=18)
            self.refuses(BadBit, by_bytes([1] * 61) + [wrong], at=489)
            self.refuses(BadBit, [1] * 10 + [wrong] + [0] * 8, at=10)
            self.refuses(BadBit, [wrong] + [0] * 9, at=0)

    def test_no_bit(self):
        self.refuses(BadFrame, [], at=0)

    def test_no_multiple_of_eight(self):
        for length in (1, 2, 7, 9, 15, 17, 18, 27, 481, 487, 3999):
            self.refuses(BadFrame, [0] * (1 + length), at=1 + length)
        self.assertEqual(Book().unpack([0] * 9), [0])
        self.assertEqual(Book().unpack([0] * 73), [0] * 9)

    def test_no_multiple_of_nine(self):
        for length in (1, 2, 8, 10, 16, 17, 19, 24, 80, 3998):
            self.refuses(BadFrame, [1] + [0] * length, at=1 + length)
        self.assertEqual(Book().unpack([1] + [0] * 9), [0])
        self.assertEqual(Book().unpack([1] + [0] * 72), [0] * 8)

    def test_bad_frame_ahead_of_the_rest(self):
        self.refuses(BadFrame, by_bytes([1] * 61) + [0], at=490)
        self.refuses(BadFrame, by_numbers([300]) + [0], at=11)
        self.refuses(BadFrame, by_numbers([1] * 61) + [1], at=551)

    def test_too_long(self):
        self.assertEqual(Book().unpack(by_bytes([1] * 60)), [1] * 60)
        for length in (61, 62, 100, 499):
            self.refuses(TooLong, by_bytes([1] * length), most=60)
            self.refuses(TooLong, by_bytes([place % 256 for place in range(length)]), most=60)

    def test_bad_code(self):
        for wrong in (300, 301, 400, 511):
            self.refuses(BadCode, by_numbers([wrong]), at=0)
            self.refuses(BadCode, by_numbers([1, 2, 3, wrong]), at=3)
            self.refuses(BadCode, by_numbers([1, wrong, wrong, 511]), at=1)
        self.refused(BadCode, Book().unpack, by_numbers([256]), at=0)
        self.refused(BadCode, full_book().unpack, by_numbers([256]), at=0)
        self.refused(BadCode, Book().unpack, by_numbers([1, 2, 257]), at=2)
        self.assertEqual(Book().unpack(by_numbers([1, 2, 256])), [1, 2, 1, 2])

    def test_numbers_of_more_than_sixty_bytes(self):
        self.assertEqual(Book().unpack(by_numbers([1] * 60)), [1] * 60)
        self.refuses(BadCode, by_numbers([1] * 61), at=60)
        self.refuses(BadCode, by_numbers([1] * 400), at=60)
        self.refused(BadCode, Book().unpack, by_numbers([1, 1] + [256] * 30), at=31)


class ByItselfTest(Checks, unittest.TestCase):
    def test_lists_that_were_told_and_handed_in_are_the_callers(self):
        row = [1, 2, 1, 2]
        book = Book()
        bits = book.pack(row)
        self.assertEqual(bits, by_numbers([1, 2, 256]))
        row[:] = [9, 9]
        bits[:] = [5]
        self.assertEqual(book.learnt(), [(1, 2), (2, 1)])
        for bits in (by_bytes([1, 2, 1, 2]), by_numbers([1, 2, 256])):
            book = Book()
            told = book.unpack(bits)
            self.assertEqual(told, [1, 2, 1, 2])
            told[:] = [9]
            bits[:] = [5]
            self.assertEqual(book.learnt(), [(1, 2), (2, 1)])

    def test_new_lists(self):
        self.tells(lambda row: Book().pack(row), [1, 2], by_bytes([1, 2]))
        self.tells(lambda row: Book().pack(row), [1] * 6, by_numbers([1, 1, 256, 256]))
        self.tells(lambda bits: Book().unpack(bits), by_bytes([1, 2]), [1, 2])
        self.tells(lambda bits: Book().unpack(bits), by_numbers([1, 2, 256]), [1, 2, 1, 2])
        self.assertIsNot(Book().unpack([0]), Book().unpack([0]))

    def test_by_name(self):
        self.assertEqual(Book().unpack(bits=Book().pack(row=[4, 4, 4])), [4, 4, 4])
        self.assertEqual(by_bytes([4, 200]), [0] + bits_of([4, 200]))


if __name__ == "__main__":
    unittest.main()
