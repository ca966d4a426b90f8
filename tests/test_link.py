"""Promises 24 to 27, and 2 where it is about links."""

import unittest
from random import Random

from helpers import FILLING, HUGE, Checks, link_stands
from warbleline.book import Book
from warbleline.errors import BadBit, BadByte, BadCode, BadFrame, Full, TooLong
from warbleline.link import MOST_PIECES, PIECE, WINDOW, Link


def bits(text):
    """The bits of a text such as 000 000 1 1."""
    return [int(sign) for sign in text if sign != " "]


def payload(number, answer, last, piece):
    """A payload with a piece."""
    return [int(sign) for sign in f"{number:03b}{answer:03b}1{last}"] + list(piece)


def answered(answer):
    """A payload without a piece."""
    return [int(sign) for sign in f"000{answer:03b}00"]


def pieces_of(row, book=None):
    """The pieces of a row, as pairs of bits and 1 for the last one, else 0."""
    packed = (Book() if book is None else book).pack(row)
    cut = [packed[at:at + 40] for at in range(0, len(packed), 40)]
    return [(piece, int(at == len(cut) - 1)) for at, piece in enumerate(cut)]


def told_pieces(link, many):
    """The next so many payloads, each answered at once: their numbers, last bits and pieces."""
    told = []
    for turn in range(many):
        frame = link.frame()
        number = int("".join(str(bit) for bit in frame[:3]), 2)
        told.append((number, frame[7], frame[8:]))
        link.take(answered((number + 1) % 8))
    return told


def waiting_link(many):
    """A link in which so many pieces wait, each an empty row's."""
    link = Link()
    for turn in range(many):
        link.hand([])
    return link


class HandTest(Checks, unittest.TestCase):
    def test_numbers(self):
        self.assertEqual((PIECE, WINDOW, MOST_PIECES), (40, 4, 40))

    def test_new(self):
        link = Link()
        self.assertEqual((link.waiting(), link.unanswered(), link.awaited()), (0, [], 0))
        self.assertIs(link.idle(), True)
        self.assertIsNone(link.frame())

    def test_pieces(self):
        for row in ([], [65], [1, 2, 3, 4], [1, 2, 3, 4, 5], list(range(9)), list(range(10)), [7] * 60,
                    list(range(60)), [1, 2] * 20):
            link = Link()
            self.assertIsNone(link.hand(row))
            pieces = pieces_of(row)
            self.assertEqual(link.waiting(), len(pieces))
            self.assertIs(link.idle(), False)
            told = told_pieces(link, len(pieces))
            self.assertEqual([(piece, last) for number, last, piece in told], pieces)
            self.assertEqual([number for number, last, piece in told], [place % 8 for place in range(len(pieces))])
            self.assertIs(link.idle(), True)
            self.assertEqual({len(piece) for piece, last in pieces[:-1]} - {40}, set())

    def test_last_piece_of_one_bit(self):
        # 0 and five bytes are 41 bits.
        link = Link()
        link.hand(row=[255, 0, 254, 1, 129])
        told = told_pieces(link, 2)
        self.assertEqual(told, [(0, 0, bits("0 11111111 00000000 11111110 00000001 1000000")), (1, 1, [1])])

    def test_last_piece_of_forty_bits(self):
        chance = Random(3)
        while True:
            row = [chance.choice((1, 2, 3, 4, 5)) for turn in range(chance.randint(30, 60))]
            if len(Book().pack(row)) % 40 == 0:
                break
        link = Link()
        link.hand(row)
        told = told_pieces(link, link.waiting())
        self.assertEqual([len(piece) for number, last, piece in told], [40] * len(told))
        self.assertEqual([last for number, last, piece in told], [0] * (len(told) - 1) + [1])
        self.assertEqual(len(told), len(Book().pack(row)) // 40)
        self.assertIsNone(link.frame())

    def test_numbers_go_on_over_rows(self):
        link, book, expected = Link(), Book(), []
        for row in ([1] * 60, list(range(30)), [], [5, 6], [5, 6, 5, 6] * 9, list(range(200, 230))):
            link.hand(row)
            expected += pieces_of(row, book)
        told = told_pieces(link, len(expected))
        self.assertEqual([(piece, last) for number, last, piece in told], expected)
        self.assertEqual([number for number, last, piece in told], [place % 8 for place in range(len(expected))])
        self.assertGreater(len(expected), 16)

    def test_packed_by_one_book(self):
        link, book = Link(), Book()
        for row in ([1, 2, 3] * 5, [1, 2, 3] * 5, FILLING, [100, 101, 100, 101], [1, 2, 3] * 5):
            link.hand(row)
            pieces = pieces_of(row, book)
            self.assertEqual([(piece, last) for number, last, piece in told_pieces(link, len(pieces))], pieces)


class HandRefusedTest(Checks, unittest.TestCase):
    def as_before(self, link, deed):
        """The deed, which is refused, leaves the link as it was, the book for what goes out too."""
        twin = link.twin()
        deed()
        self.assertEqual(link_stands(link), link_stands(twin))
        for thing in (link, twin):
            for turn in range(100):
                frame = thing.frame()
                if frame is not None:
                    thing.take(answered((int("".join(str(bit) for bit in frame[:3]), 2) + 1) % 8))
            thing.hand([11, 12, 13, 11, 12, 13, 11, 12])
        self.assertEqual(link.waiting(), twin.waiting())
        self.assertEqual(told_pieces(link, link.waiting()), told_pieces(twin, twin.waiting()))

    def test_bad_byte(self):
        for wrong in (-1, 256, HUGE, -HUGE):
            for link in (Link(), waiting_link(39), waiting_link(40)):
                self.as_before(link, lambda link=link: self.refused(
                    BadByte, link.hand, [11, 12, 13, 11, 12, wrong, -5], at=5))
        self.refused(BadByte, Link().hand, [1] * 61 + [300], at=61)
        self.refused(BadByte, waiting_link(40).hand, [1] * 61 + [300], at=61)

    def test_too_long(self):
        for link in (Link(), waiting_link(39), waiting_link(40)):
            self.as_before(link, lambda link=link: self.refused(TooLong, link.hand, [11, 12, 13] * 21, most=60))
            self.as_before(link, lambda link=link: self.refused(TooLong, link.hand, [11, 12] * 2000, most=60))
        Link().hand([1] * 60)

    def test_full(self):
        link = waiting_link(40)
        self.as_before(link, lambda: self.refused(Full, link.hand, [11, 12, 13] * 3, most=40))
        full = waiting_link(40)
        self.refused(Full, full.hand, [], most=40)
        full.frame()
        self.assertEqual((full.waiting(), full.unanswered()), (39, [0]))
        full.hand(list(range(60)))
        self.assertEqual(full.waiting(), 39 + 13)
        self.refused(Full, full.hand, [], most=40)

    def test_not_full(self):
        link = waiting_link(39)
        link.hand(list(range(60)))
        self.assertEqual(link.waiting(), 52)
        self.refused(Full, link.hand, [1], most=40)

    def test_open_ones_do_not_count(self):
        link = waiting_link(4)
        for turn in range(4):
            link.frame()
        for turn in range(40):
            link.hand([])
        self.assertEqual((link.waiting(), link.unanswered()), (40, [0, 1, 2, 3]))
        self.refused(Full, link.hand, [], most=40)

    def test_full_does_not_clear_a_full_book(self):
        link = Link()
        link.hand(FILLING)
        while link.waiting() < 40:
            link.hand([1] * 30 if link.waiting() < 30 else [])
        self.as_before(link, lambda: self.refused(Full, link.hand, [], most=40))


class FrameTest(Checks, unittest.TestCase):
    def test_by_hand(self):
        link = Link()
        link.hand([65, 66])
        self.assertEqual(link.frame(), bits("000 000 1 1 0 01000001 01000010"))
        link.hand([])
        self.assertEqual(link.frame(), bits("001 000 1 1 0"))
        # 65 66 was learnt as 256; its number twice is fewer bits than four bytes.
        link.hand([65, 66, 65, 66])
        self.assertEqual(link.frame(), bits("010 000 1 1 1 100000000 100000000"))

    def test_answer_goes_along(self):
        link = Link()
        for at in range(10):
            link.take(payload(at % 8, 0, 1, [0]))
            self.assertEqual(link.frame(), answered((at + 1) % 8))
            link.hand([])
            self.assertEqual(link.frame(), payload(at % 8, (at + 1) % 8, 1, [0]))
            link.take(answered((at + 1) % 8))

    def test_answer_is_that_of_now(self):
        link = Link()
        link.hand([])
        self.assertEqual(link.frame(), payload(0, 0, 1, [0]))
        link.take(payload(0, 0, 1, [0]))
        self.assertEqual(link.frame(), payload(0, 1, 1, [0]))
        link.take(payload(2, 0, 1, [0]))
        self.assertEqual(link.frame(), payload(0, 1, 1, [0]))
        link.take(payload(1, 0, 1, [0]))
        self.assertEqual(link.frame(), payload(0, 3, 1, [0]))

    def numbers(self, link, many):
        return [int("".join(str(bit) for bit in link.frame()[:3]), 2) for turn in range(many)]

    def test_at_most_four_open(self):
        link = waiting_link(6)
        for many in (1, 2, 3, 4):
            link.frame()
            self.assertEqual(link.unanswered(), list(range(many)))
            self.assertEqual(link.waiting(), 6 - many)
        link.frame()
        self.assertEqual((link.unanswered(), link.waiting()), ([0, 1, 2, 3], 2))

    def test_sent_longest_ago(self):
        self.assertEqual(self.numbers(waiting_link(6), 13), [0, 1, 2, 3, 0, 1, 2, 3, 0, 1, 2, 3, 0])
        self.assertEqual(self.numbers(waiting_link(2), 5), [0, 1, 0, 1, 0])
        self.assertEqual(self.numbers(waiting_link(1), 3), [0, 0, 0])

    def test_waiting_goes_ahead_of_sent(self):
        link = waiting_link(9)
        self.assertEqual(self.numbers(link, 6), [0, 1, 2, 3, 0, 1])
        link.take(answered(1))
        # 4 is new; then 2, which was sent longest ago, 3, 1 and 4.
        self.assertEqual(self.numbers(link, 6), [4, 2, 3, 1, 4, 2])
        self.assertEqual(link.unanswered(), [1, 2, 3, 4])
        link.take(answered(3))
        self.assertEqual(self.numbers(link, 7), [5, 6, 3, 4, 5, 6, 3])
        link.take(answered(7))
        self.assertEqual(self.numbers(link, 6), [7, 0, 7, 0, 7, 0])
        self.assertEqual(link.unanswered(), [7, 0])
        link.hand([])
        self.assertEqual(self.numbers(link, 4), [1, 7, 0, 1])

    def test_the_same_payload_again(self):
        link = Link()
        link.hand([9, 8, 7, 6, 5, 4])
        first, second = link.frame(), link.frame()
        self.assertEqual([link.frame(), link.frame(), link.frame()], [first, second, first])

    def test_without_a_piece(self):
        link = Link()
        self.assertIsNone(link.frame())
        link.take(payload(0, 0, 1, [0]))
        self.assertEqual(link.frame(), answered(1))
        self.assertIsNone(link.frame())
        self.assertIsNone(link.frame())

    def test_without_a_piece_once_for_several(self):
        link = Link()
        for number in (0, 1, 2):
            link.take(payload(number, 0, 1, [0]))
        self.assertEqual(link.frame(), answered(3))
        self.assertIsNone(link.frame())

    def test_known_pieces_count(self):
        link = Link()
        link.take(payload(0, 0, 1, [0]))
        link.frame()
        for number in (0, 7, 5, 4):
            link.take(payload((1 + number) % 8 if number == 7 else 0, 0, 1, [0]))
            self.assertEqual(link.frame(), answered(1))
            self.assertIsNone(link.frame())
        # A piece that is kept, too.
        link.take(payload(3, 0, 1, [0]))
        self.assertEqual(link.frame(), answered(1))
        self.assertIsNone(link.frame())

    def test_payloads_without_a_piece_do_not_count(self):
        link = Link()
        link.take(answered(0))
        self.assertIsNone(link.frame())
        link.take(payload(0, 0, 1, [0]))
        link.take(answered(0))
        self.assertEqual(link.frame(), answered(1))
        link.take(answered(0))
        self.assertIsNone(link.frame())

    def test_any_payload_that_was_told_counts(self):
        # The piece that was told behind the taken one has its answer.
        link = Link()
        link.hand([])
        link.take(payload(0, 0, 1, [0]))
        self.assertEqual(link.frame(), payload(0, 1, 1, [0]))
        link.take(answered(1))
        self.assertIsNone(link.frame())
        link = Link()
        link.hand([])
        link.frame()
        link.take(payload(0, 1, 1, [0]))
        self.assertEqual(link.frame(), answered(1))
        self.assertIsNone(link.frame())

    def test_refused_payloads_do_not_count(self):
        link = Link()
        self.refused(BadFrame, link.take, payload(0, 0, 1, [0, 1]), at=2)
        self.refused(BadFrame, link.take, payload(0, 0, 1, []), at=0)
        self.assertIsNone(link.frame())


class AnswerTest(Checks, unittest.TestCase):
    def sent(self, ahead, many):
        """A link with so many open, behind so many that were answered, and two more that wait."""
        link = waiting_link(ahead + many + 2)
        told_pieces(link, ahead)
        for turn in range(many):
            link.frame()
        return link

    def test_each_answer(self):
        for ahead in range(9):
            for many in range(5):
                for answer in range(8):
                    link = self.sent(ahead, many)
                    numbers = [(ahead + turn) % 8 for turn in range(many)]
                    self.assertEqual(link.unanswered(), numbers)
                    on = (answer - ahead) % 8
                    left = numbers[on:] if on <= many else numbers
                    self.assertEqual(link.take(answered(answer)), [])
                    self.assertEqual(link.unanswered(), left)
                    self.assertEqual(link.waiting(), 2)
                    # With a piece it is the same, also with one that is known.
                    for number in (0, 2, 5):
                        link = self.sent(ahead, many)
                        link.take(payload(number, answer, 1, [0]))
                        self.assertEqual(link.unanswered(), left)

    def test_idle(self):
        link = waiting_link(1)
        self.assertIs(link.idle(), False)
        link.frame()
        self.assertIs(link.idle(), False)
        link.take(answered(1))
        self.assertIs(link.idle(), True)
        self.assertIsNone(link.frame())

    def test_what_came_in_does_not_count_for_idle(self):
        link = Link()
        link.take(payload(1, 0, 1, [0]))
        self.assertIs(link.idle(), True)


class TakeTest(Checks, unittest.TestCase):
    def test_by_hand(self):
        link = Link()
        self.assertEqual(link.take(payload=bits("000 000 1 1 0 01000001 01000010")), [[65, 66]])
        self.assertEqual(link.awaited(), 1)
        self.assertEqual(link.take(bits("001 000 1 1 0")), [[]])
        self.assertEqual(link.take(bits("010 000 1 1 1 100000000 100000000")), [[65, 66, 65, 66]])
        self.assertEqual(link.awaited(), 3)
        self.assertEqual(link.take(bits("000 000 0 0")), [])
        self.assertEqual(link.awaited(), 3)

    def test_in_parts(self):
        link = Link()
        self.assertEqual(link.take(bits("000 000 1 0 0 0100")), [])
        self.assertEqual(link.take(bits("001 000 1 0 0")), [])
        self.assertEqual(link.take(bits("010 000 1 1 001")), [[65]])
        self.assertEqual(link.awaited(), 3)

    def test_awaited_goes_round(self):
        link = Link()
        for at in range(20):
            self.assertEqual(link.awaited(), at % 8)
            self.assertEqual(link.take(payload(at % 8, 0, 1, [0])), [[]])

    def test_out_of_order(self):
        rows = ([], [65], [1, 2, 3], [0])
        packed = [[0], *[bits("0" + "".join(f"{byte:08b}" for byte in row)) for row in rows[1:]]]
        for first in range(9):
            link = Link()
            for number in range(first):
                link.take(payload(number % 8, 0, 1, [0]))
            for on in (3, 1, 2):
                self.assertEqual(link.take(payload((first + on) % 8, 0, 1, packed[on])), [])
                self.assertEqual(link.awaited(), first % 8)
            self.assertEqual(link.take(payload(first % 8, 0, 1, packed[0])), list(rows))
            self.assertEqual(link.awaited(), (first + 4) % 8)

    def test_a_gap(self):
        link = Link()
        link.take(payload(1, 0, 1, [0] + [0] * 8))
        link.take(payload(3, 0, 1, [0] + [1] * 8))
        self.assertEqual(link.take(payload(0, 0, 1, [0])), [[], [0]])
        self.assertEqual(link.awaited(), 2)
        self.assertEqual(link.take(payload(2, 0, 1, [0])), [[], [255]])
        self.assertEqual(link.awaited(), 4)

    def test_rows_of_several_pieces_out_of_order(self):
        link, other = Link(), Link()
        rows = [list(range(10, 20)), [7] * 5]
        for row in rows:
            other.hand(row)
        frames = [other.frame() for turn in range(4)]
        self.assertEqual(link.take(frames[3]), [])
        self.assertEqual(link.take(frames[1]), [])
        self.assertEqual(link.take(frames[0]), [])
        self.assertEqual(link.awaited(), 2)
        self.assertEqual(link.take(frames[2]), rows)
        self.assertEqual(link.awaited(), 4)

    def test_doubled(self):
        link = Link()
        for turn in range(3):
            self.assertEqual(link.take(payload(1, 0, 1, [0] + [0] * 8)), [])
        # The first one that came is kept, whatever comes behind it.
        self.assertEqual(link.take(payload(1, 0, 1, [0])), [])
        self.assertEqual(link.take(payload(1, 0, 0, [1, 1])), [])
        self.assertEqual(link.take(payload(0, 0, 1, [0])), [[], [0]])

    def test_known(self):
        for first in (0, 4, 7):
            link = Link()
            for number in range(first):
                link.take(payload(number % 8, 0, 1, [0]))
            for on in (4, 5, 6, 7):
                self.assertEqual(link.take(payload((first + on) % 8, 0, 1, [1, 1, 1])), [])
                self.assertEqual(link.awaited(), first)
            for on in range(8):
                self.assertEqual(link.take(payload((first + on) % 8, 0, 1, [0])), [[]])

    def test_books_of_either_way(self):
        # What goes out does not teach the book for what comes in.
        link = Link()
        link.hand([65, 66])
        self.refused(BadCode, link.take, bits("000 000 1 1 1 100000000"), at=0)
        link.take(bits("000 000 1 1 0 01000001 01000010"))
        self.assertEqual(link.take(bits("001 000 1 1 1 100000000")), [[65, 66]])

    def test_row_told_by_more_bits_than_needed(self):
        self.assertEqual(Link().take(bits("000 000 1 1 1 001000001")), [[65]])
        self.assertEqual(Link().take(bits("000 000 1 1 1")), [[]])


class TakeRefusedTest(Checks, unittest.TestCase):
    def link(self):
        """A link that has come some way: with open pieces, a begun row, a kept piece and words learnt."""
        link = waiting_link(6)
        told_pieces(link, 2)
        for turn in range(3):
            link.frame()
        link.take(bits("000 010 1 1 0 01000001 01000010"))
        link.take(bits("001 010 1 0 0 0100"))
        link.take(bits("011 010 1 1 0"))
        link.frame()
        self.assertEqual((link.unanswered(), link.awaited()), ([2, 3, 4, 5], 2))
        return link

    def as_before(self, kind, wrong, **values):
        for link in (self.link(), Link()):
            twin = link.twin()
            self.refused(kind, link.take, wrong, **values)
            self.assertEqual(link_stands(link), link_stands(twin))

    def test_bad_bit(self):
        for wrong in (2, -1, HUGE, -HUGE):
            for at in range(12):
                row = payload(0, 4, 1, [0, 0, 1, 1])
                row[at] = wrong
                self.as_before(BadBit, row, at=at)
        self.as_before(BadBit, [2], at=0)
        self.as_before(BadBit, [0] * 60 + [3, -1], at=60)
        self.as_before(BadBit, [1] * 7 + [2], at=7)

    def test_too_short(self):
        for many in range(8):
            self.as_before(BadFrame, [0] * many, at=0)
            self.as_before(BadFrame, [1] * many, at=0)

    def test_without_a_piece(self):
        for number in range(1, 8):
            self.as_before(BadFrame, bits(f"{number:03b} 100 0 0"), at=0)
        self.as_before(BadFrame, bits("000 100 0 1"), at=0)
        for row in ([0], [1], [0] * 40, [1] * 41):
            self.as_before(BadFrame, bits("000 100 0 0") + row, at=0)
            self.as_before(BadFrame, bits("010 100 0 1") + row, at=0)

    def test_length_of_the_piece(self):
        for last in (0, 1):
            self.as_before(BadFrame, payload(2, 4, last, []), at=0)
            for many in (41, 42, 100, 248):
                self.as_before(BadFrame, payload(2, 4, last, [0] * many), at=0)
        self.assertEqual(Link().take(payload(0, 0, 0, [0] * 40)), [])
        self.assertEqual(Link().take(payload(0, 0, 0, [0])), [])

    def test_form_ahead_of_what_unpack_refuses(self):
        self.as_before(BadFrame, payload(2, 4, 1, [1] * 41), at=0)

    def test_known_piece_of_wrong_form(self):
        self.as_before(BadFrame, payload(1, 4, 1, []), at=0)

    def test_what_unpack_refuses(self):
        link = Link()
        # Not a multiple of eight, or nine, behind the first bit.
        for row in ([0, 1], [0] * 8, [1, 0], [1] * 9):
            self.refused(BadFrame, link.take, payload(0, 0, 1, row), at=len(row))
        self.refused(BadCode, link.take, payload(0, 0, 1, bits("1 001000001 100000000")), at=1)
        self.assertEqual(link_stands(link), link_stands(Link()))
        self.assertEqual(link.take(payload(0, 0, 1, [0])), [[]])

    def test_too_long(self):
        # 0 and 61 bytes are 489 bits: twelve pieces of 40 and one of 9.
        link = Link()
        for at in range(12):
            self.assertEqual(link.take(payload(at % 8, 0, 0, [0] * 40)), [])
        twin = link.twin()
        self.refused(TooLong, link.take, payload(4, 0, 1, [0] * 9), most=60)
        self.assertEqual(link_stands(link), link_stands(twin))
        self.assertEqual(link.take(payload(4, 0, 1, [0])), [[0] * 60])

    def test_code_behind_a_begun_row(self):
        link = Link()
        link.take(payload(0, 0, 0, bits("1 001000001")))
        twin = link.twin()
        self.refused(BadCode, link.take, payload(1, 0, 1, bits("111111111")), at=1)
        self.refused(BadFrame, link.take, payload(1, 0, 1, bits("11111111")), at=18)
        self.assertEqual(link_stands(link), link_stands(twin))
        self.assertEqual(link.take(payload(1, 0, 1, bits("001000010"))), [[65, 66]])

    def test_answers_and_all_else_as_it_was(self):
        link = self.link()
        twin = link.twin()
        # The begun row is 0 0 1 0 0; with this it is of no whole bytes.
        self.refused(BadFrame, link.take, payload(2, 4, 1, [0, 0]), at=7)
        self.assertEqual(link_stands(link), link_stands(twin))
        self.assertEqual(link.unanswered(), [2, 3, 4, 5])
        self.assertEqual(link.take(payload(2, 4, 1, [0, 0, 0, 1])), [[65], []])
        self.assertEqual(link.unanswered(), [4, 5])

    def test_bad_row_behind_good_ones_that_came_late(self):
        link = waiting_link(3)
        for turn in range(3):
            link.frame()
        good = [bits("0 01000001 01000010"), bits("0 01000011 01000100")]
        self.assertEqual(link.take(payload(1, 0, 1, good[1])), [])
        self.assertEqual(link.take(payload(2, 0, 1, [0, 1, 1])), [])
        self.assertEqual(link.frame()[3:6], [0, 0, 0])
        twin = link.twin()
        for turn in range(3):
            self.refused(BadFrame, link.take, payload(0, 2, 1, good[0]), at=3)
            self.assertEqual(link_stands(link), link_stands(twin))
            self.assertEqual(link.unanswered(), [0, 1, 2])
            self.assertEqual(link.awaited(), 0)
        # The book learnt nothing of the good rows: the number of a word they would have taught is none's.
        self.refused(BadCode, link.take, payload(0, 2, 1, bits("1 100000000")), at=0)
        # The kept pieces stand: one that is not a row's last makes the next ones another row.
        self.refused(BadFrame, link.take, payload(0, 2, 0, [0] * 8), at=3)
        # With its row made longer by what comes ahead, the piece behind is still the bad one.
        self.assertEqual(link_stands(link), link_stands(twin))


class ByItselfTest(unittest.TestCase):
    def test_twin_goes_on_as_the_first_one(self):
        chance = Random(5)
        one, other = Link(), Link()
        for turn in range(300):
            twin = one.twin()
            self.assertIs(type(twin), Link)
            self.assertEqual(link_stands(twin), link_stands(one))
            if chance.random() < 0.3 and one.waiting() < 40:
                row = [chance.choice((1, 2, 3)) for turn in range(chance.randint(0, 20))]
                one.hand(row)
                twin.hand(row)
            frame = one.frame()
            self.assertEqual(twin.frame(), frame)
            if frame is not None and chance.random() < 0.7:
                other.take(frame)
            if chance.random() < 0.3 and other.waiting() < 40:
                other.hand([chance.choice((1, 2, 3)) for turn in range(chance.randint(0, 20))])
            back = other.frame()
            if back is not None and chance.random() < 0.7:
                self.assertEqual(twin.take(back), one.take(back))
            self.assertEqual(link_stands(twin), link_stands(one))

    def test_twin_that_owes_an_answer(self):
        link = Link()
        link.take(payload(0, 0, 1, [0]))
        twin = link.twin()
        self.assertEqual([twin.frame(), twin.frame()], [answered(1), None])
        self.assertEqual([link.frame(), link.frame()], [answered(1), None])
        self.assertIsNone(link.twin().frame())

    def test_each_by_itself(self):
        def begun():
            link = waiting_link(6)
            link.frame()
            link.take(payload(2, 0, 0, [0]))
            link.take(payload(0, 0, 0, bits("1 001000001")))
            link.hand([1, 2, 1, 2])
            return link

        deeds = (lambda link: link.hand([1, 2, 1, 2]), lambda link: link.frame(),
                 lambda link: link.take(answered(1)), lambda link: link.take(payload(3, 0, 0, [0])),
                 lambda link: link.take(payload(1, 0, 0, [0] * 8)),
                 lambda link: link.take(payload(1, 0, 1, bits("001000010"))))
        for deed in deeds:
            link, kept = begun(), begun()
            twin = link.twin()
            deed(twin)
            self.assertEqual(link_stands(link), link_stands(kept))
            self.assertNotEqual(link_stands(twin), link_stands(kept))
            twin = link.twin()
            deed(link)
            self.assertEqual(link_stands(twin), link_stands(kept))

    def test_lists_are_the_callers(self):
        one, other, rows = Link(), Link(), [[1, 2, 3], [1, 2, 3, 1, 2, 3], list(range(30)), [1, 2, 3]]
        told = []
        for row in rows:
            handed = list(row)
            one.hand(handed)
            self.assertEqual(handed, row)
            handed[:] = [9] * 9
        for turn in range(40):
            frame = one.frame()
            if frame is None:
                break
            before = list(frame)
            came = other.take(frame)
            self.assertEqual(frame, before)
            told += [list(row) for row in came]
            for row in came:
                row.clear()
            came.append(5)
            frame[:] = [1]
            back = other.frame()
            one.take(back)
            back.clear()
            open_ones = one.unanswered()
            open_ones.append(7)
            self.assertNotIn(7, one.unanswered())
        self.assertEqual(told, rows)

    def test_sent_again_as_it_was(self):
        link = Link()
        link.hand([1, 2, 3])
        first = link.frame()
        kept = list(first)
        first[:] = [0] * 3
        self.assertEqual(link.frame(), kept)

    def test_kept_pieces_are_copies(self):
        link = Link()
        late = payload(1, 0, 1, [0] + [1] * 8)
        link.take(late)
        late[8:] = [1, 1, 1]
        begun = payload(0, 0, 1, [0])
        self.assertEqual(link.take(begun), [[], [255]])

    def test_asking_does_nothing(self):
        link = waiting_link(6)
        link.frame()
        link.take(payload(1, 0, 1, [0]))
        stands = link_stands(link)
        for turn in range(3):
            self.assertEqual((link.waiting(), link.unanswered(), link.awaited(), link.idle()), (5, [0], 0, False))
        self.assertEqual(link_stands(link), stands)
        self.assertIsNot(link.unanswered(), link.unanswered())


if __name__ == "__main__":
    unittest.main()
