"""Promise 8, and 2 where it is about the reader."""

import unittest
from random import Random

from helpers import HUGE, Checks, some_rows
from warbleline.errors import BadBit
from warbleline.frames import MARK, MOST_OPEN, Reader, framed, stuffed
from warbleline.seal import sealed, seal_of

M = [0, 1, 1, 1, 1, 1, 1, 0]


def between(payload):
    """What lies between the marks of a payload's frame, also of one that has no right frame."""
    return stuffed(sealed(payload))


def mark_ends(stream):
    """How many bits there are up to the end of each mark."""
    return [end for end in range(8, len(stream) + 1) if stream[end - 8:end] == M]


def right_ones():
    """All that may lie between marks of the payloads used here, told from the frames alone."""
    return {tuple(framed(payload)[8:-8]): payload for payload in PAYLOADS}


PAYLOADS = some_rows(21, [1, 2, 5, 8, 16, 30, 100, 256]) + [[0], [1], [1] * 256, [0] * 256]


def told_by_words(stream):
    """The payloads and the count of hurt ones, by looking at the whole stream at once."""
    ends = mark_ends(stream)
    right = right_ones()
    told, hurt = [], 0
    for begin, end in zip(ends, ends[1:]):
        inner = tuple(stream[begin:max(begin, end - 8)])
        if inner in right:
            told.append(right[inner])
        elif inner:
            hurt += 1
    if ends and len(stream) - ends[-1] > 400:
        hurt += 1
    return told, hurt


class StreamTest(Checks, unittest.TestCase):
    stream = [1, 1, 0] + [bit for payload in PAYLOADS for bit in framed(payload)] + [0, 1]

    def test_one_frame(self):
        for payload in PAYLOADS:
            reader = Reader()
            self.assertEqual(reader.take(framed(payload)), [payload])
            self.assertEqual((reader.hurt(), reader.waiting()), (0, 0))

    def test_whole(self):
        reader = Reader()
        handed = list(self.stream)
        self.assertEqual(reader.take(handed), PAYLOADS)
        self.assertEqual(handed, self.stream)
        self.assertEqual((reader.hurt(), reader.waiting()), (0, 2))

    def test_bit_by_bit(self):
        reader = Reader()
        told = []
        for bit in self.stream:
            told += reader.take([bit])
        self.assertEqual(told, PAYLOADS)
        self.assertEqual(reader.hurt(), 0)

    def test_cut_anywhere(self):
        stream = framed([1, 0, 1]) + framed([0]) + framed([1] * 7)
        for cut in range(len(stream) + 1):
            reader = Reader()
            first = reader.take(stream[:cut])
            self.assertEqual(first, [[1, 0, 1], [0], [1] * 7][:len(first)])
            self.assertEqual(first + reader.take(stream[cut:]), [[1, 0, 1], [0], [1] * 7])
            self.assertEqual((reader.hurt(), reader.waiting()), (0, 0))

    def test_payload_is_told_with_the_last_bit_of_its_mark(self):
        stream = framed([1, 0])
        reader = Reader()
        self.assertEqual(reader.take(stream[:-1]), [])
        self.assertEqual(reader.take(stream[-1:]), [[1, 0]])

    def test_empty_part(self):
        reader = Reader()
        for part in (M[:4], M[4:], [1, 0]):
            before = (reader.waiting(), reader.hurt())
            self.assertEqual(reader.take([]), [])
            self.assertEqual((reader.waiting(), reader.hurt()), before)
            reader.take(part)
        self.assertEqual(reader.waiting(), 2)
        self.assertIsNot(reader.take([]), reader.take([]))

    def test_by_name(self):
        self.assertEqual(Reader().take(bits=framed([0])), [[0]])

    def test_one_mark_between_frames(self):
        stream = M + between([1]) + M + between([0, 0]) + M
        self.assertEqual(Reader().take(stream), [[1], [0, 0]])

    def test_marks_that_share_a_nought(self):
        shared = M + M[1:] + M[1:]
        reader = Reader()
        self.assertEqual(reader.take(shared), [])
        self.assertEqual((reader.hurt(), reader.waiting()), (0, 0))
        self.assertEqual(reader.take(between([1, 1]) + shared + between([0, 1]) + shared), [[1, 1], [0, 1]])
        self.assertEqual((reader.hurt(), reader.waiting()), (0, 0))

    def test_each_shared_mark_is_one(self):
        reader = Reader()
        seen = []
        for bit in M + M[1:]:
            reader.take([bit])
            seen.append(reader.waiting())
        self.assertEqual(seen, [None] * 7 + [0] + [1, 2, 3, 4, 5, 6, 0])

    def test_marks_side_by_side(self):
        reader = Reader()
        self.assertEqual(reader.take(M * 5 + between([1]) + M * 3 + between([0]) + M * 2), [[1], [0]])
        self.assertEqual((reader.hurt(), reader.waiting()), (0, 0))

    def test_bits_ahead_of_the_first_mark(self):
        for ahead in ([0], [1], [1] * 9, [0] * 1000, [0, 1, 1, 1, 1, 1], between([1, 0]), [1] * 4000):
            reader = Reader()
            self.assertEqual(reader.take(ahead), [])
            self.assertIsNone(reader.waiting())
            self.assertEqual(reader.take(framed([1, 0, 0])), [[1, 0, 0]])
            self.assertEqual(reader.hurt(), 0)

    def test_no_mark_of_other_counts_of_ones(self):
        for ones in (4, 5, 7, 8, 20):
            reader = Reader()
            reader.take([0] + [1] * ones + [0])
            self.assertIsNone(reader.waiting())

    def test_streams_of_all_sorts(self):
        chance = Random(22)
        parts = [M, M[1:], M[:-1], [0], [1], [1] * 5, [1] * 7, [1, 0] * 150, [0] * 390, [0] * 393, [0] * 401]
        parts += [framed(payload) for payload in PAYLOADS] + [between(payload) + M for payload in PAYLOADS]
        parts += [between([]) + M, between([0] * 257) + M, between([1, 0] * 150) + M]
        for run in range(300):
            stream = [bit for part in chance.choices(parts, k=15) for bit in part]
            if run % 3 == 0:
                at = chance.randrange(len(stream))
                stream[at] = 1 - stream[at]
            reader = Reader()
            told, at = [], 0
            while at < len(stream):
                many = chance.choice((1, 3, 50, 1000))
                told += reader.take(stream[at:at + many])
                at += many
            self.assertEqual((told, reader.hurt()), told_by_words(stream))


class HurtTest(Checks, unittest.TestCase):
    def hurt_by(self, inner, many=1):
        """So many hurt by what lies between two marks, and what comes behind is told all the same."""
        reader = Reader()
        self.assertEqual(reader.take(M + inner), [])
        self.assertEqual(reader.hurt(), 0)
        self.assertEqual(reader.take(M), [])
        self.assertEqual((reader.hurt(), reader.waiting()), (many, 0))
        self.assertEqual(reader.take(between([0, 1]) + M), [[0, 1]])
        self.assertEqual(reader.take(inner + M), [])
        self.assertEqual(reader.hurt(), 2 * many)
        self.assertEqual(reader.hurt(), 2 * many)

    def test_a_sixth_one(self):
        self.hurt_by([0] + [1] * 7 + [0])
        inner = between([0, 0, 0])
        self.hurt_by(inner[:3] + [1] * 7 + inner[3:])

    def test_a_lacking_nought_at_the_end(self):
        payload = next(row for row in some_rows(23, [20] * 500) if seal_of(row)[-6:] == [0, 1, 1, 1, 1, 1])
        inner = between(payload)
        self.assertEqual(inner[-7:], [0, 1, 1, 1, 1, 1, 0])
        self.assertEqual(Reader().take(M + inner + M), [payload])
        self.hurt_by(inner[:-1])

    def test_not_sealed(self):
        inner = between([1, 0, 0, 1, 0, 0])
        self.hurt_by([1 - inner[0]] + inner[1:])
        self.hurt_by(inner[1:])
        self.hurt_by([0] + inner)
        for length in range(1, 16):
            self.hurt_by([0] * length)

    def test_short_rest(self):
        for inner in ([0], [1], [1, 1, 1, 1], [1] * 5 + [0]):
            self.hurt_by(inner)

    def test_no_payload(self):
        self.hurt_by(between([]))

    def test_payload_too_long(self):
        for payload in some_rows(24, [257, 258, 300]) + [[0] * 257, [1] * 257]:
            self.hurt_by(between(payload))

    def test_several(self):
        reader = Reader()
        stream = M + [0] + M + between([1]) + M + between([]) + M + [1, 1] + M[1:]
        self.assertEqual(reader.take(stream), [[1]])
        self.assertEqual((reader.hurt(), reader.waiting()), (2, 9))
        self.assertEqual(reader.take(M), [])
        self.assertEqual(reader.hurt(), 3)


class MostOpenTest(Checks, unittest.TestCase):
    def test_at_just_most_and_one_more(self):
        self.assertEqual(MOST_OPEN, 400)
        reader = Reader()
        reader.take(M + [0] * 400)
        self.assertEqual((reader.hurt(), reader.waiting()), (0, 400))
        reader.take([0])
        self.assertEqual((reader.hurt(), reader.waiting()), (1, None))
        reader.take([0] * 1000)
        self.assertEqual((reader.hurt(), reader.waiting()), (1, None))
        self.assertEqual(reader.take(framed([1])), [[1]])
        self.assertEqual((reader.hurt(), reader.waiting()), (1, 0))

    def test_each_time(self):
        reader = Reader()
        reader.take((M + [0] * 401) * 3)
        self.assertEqual((reader.hurt(), reader.waiting()), (3, None))

    def test_a_mark_near_the_bound_counts_once(self):
        for length in (391, 392, 393, 394, 395, 399, 400, 401, 402, 500):
            reader = Reader()
            reader.take(M + [0] * length)
            self.assertEqual(reader.take(M + between([1]) + M), [[1]])
            self.assertEqual((reader.hurt(), reader.waiting()), (1, 0))

    def test_the_last_bit_ends_a_mark(self):
        # The mark's last bit is number 400, 401 and 402 behind the mark ahead of it.
        for length, ahead in ((392, (0, 399)), (393, (0, 400)), (394, (1, None))):
            reader = Reader()
            reader.take(M + [0] * length + M[:7])
            self.assertEqual((reader.hurt(), reader.waiting()), ahead)
            reader.take(M[7:])
            self.assertEqual((reader.hurt(), reader.waiting()), (1, 0))

    def test_last_bits_stand(self):
        for stands in range(8):
            reader = Reader()
            reader.take(M + [1] * (401 - stands) + M[:stands])
            self.assertEqual((reader.hurt(), reader.waiting()), (1, None))
            reader.take(M[stands:])
            self.assertEqual((reader.hurt(), reader.waiting()), (1, 0))


class ForgetTest(Checks, unittest.TestCase):
    def test_counts_nothing(self):
        reader = Reader()
        reader.take(M + [0] + M + [1, 0, 0])
        self.assertEqual((reader.hurt(), reader.waiting()), (1, 3))
        self.assertIsNone(reader.forget())
        self.assertEqual((reader.hurt(), reader.waiting()), (1, None))
        self.assertEqual(reader.take(framed([1])), [[1]])
        self.assertEqual(reader.hurt(), 1)

    def test_at_the_beginning_and_twice(self):
        reader = Reader()
        reader.forget()
        reader.forget()
        self.assertEqual((reader.hurt(), reader.waiting()), (0, None))
        self.assertEqual(reader.take(framed([0, 1])), [[0, 1]])

    def test_amid_a_mark(self):
        for cut in range(1, 8):
            reader = Reader()
            reader.take(M[:cut])
            reader.forget()
            self.assertEqual(reader.take(M[cut:]), [])
            self.assertIsNone(reader.waiting())

    def test_behind_a_mark_no_nought_is_left_to_share(self):
        reader = Reader()
        reader.take(M)
        reader.forget()
        reader.take(M[1:])
        self.assertIsNone(reader.waiting())
        reader.take(M[1:])
        self.assertEqual(reader.waiting(), 0)

    def test_amid_a_frame(self):
        stream = framed([1, 0, 1])
        for cut in range(1, len(stream)):
            reader = Reader()
            self.assertEqual(reader.take(stream[:cut]), [])
            reader.forget()
            self.assertEqual(reader.take(stream[cut:]), [])
            self.assertEqual(reader.hurt(), 0)
            self.assertEqual(reader.take(framed([0])), [[0]])


class WaitingTest(Checks, unittest.TestCase):
    def test_behind_each_part(self):
        reader = Reader()
        self.assertIsNone(reader.waiting())
        steps = (([], None), ([1, 0], None), (M[1:7], None), ([0], 0), ([0], 1), ([0, 1, 1], 4),
                 ([], 4), (M, 0), (M[1:], 0), ([1] * 300, 300), ([1] * 100, 400), ([1], None), ([0], None))
        for part, expected in steps:
            reader.take(part)
            self.assertEqual(reader.waiting(), expected)
            self.assertEqual(reader.waiting(), expected)

    def test_marks_within_the_part(self):
        for length in range(0, 40):
            reader = Reader()
            reader.take(framed([1]) + M + [0] * length)
            self.assertEqual(reader.waiting(), length)


class RefusedTest(Checks, unittest.TestCase):
    def test_bad_bit(self):
        for wrong in (2, -1, HUGE, -HUGE):
            self.refused(BadBit, Reader().take, [wrong], at=0)
            self.refused(BadBit, Reader().take, M + [wrong], at=8)
            self.refused(BadBit, Reader().take, [0, wrong, 5, -5], at=1)

    def test_reader_is_as_it_was(self):
        stream = [1] + framed([1, 0]) + [0, 1] + framed([0])
        for cut in range(len(stream) + 1):
            reader, plain = Reader(), Reader()
            told, expected = reader.take(stream[:cut]), plain.take(stream[:cut])
            for part in (M + [0] + M + [2], stream[cut:] + [2], [-1] + M, [0, 0, 7, 0], [0] * 500 + [2]):
                self.refused(BadBit, reader.take, part)
                self.assertEqual((reader.hurt(), reader.waiting()), (plain.hurt(), plain.waiting()))
            told += reader.take(stream[cut:])
            expected += plain.take(stream[cut:])
            self.assertEqual(told, expected)
            self.assertEqual(told, [[1, 0], [0]])
            self.assertEqual((reader.hurt(), reader.waiting()), (1, 0))


class ByItselfTest(Checks, unittest.TestCase):
    def test_two_readers(self):
        one, other = Reader(), Reader()
        one.take(M + [0] + M + [1])
        self.assertEqual((other.hurt(), other.waiting()), (0, None))
        self.assertEqual(other.take(framed([1])), [[1]])
        self.assertEqual((one.hurt(), one.waiting()), (1, 1))
        other.forget()
        self.assertEqual((one.hurt(), one.waiting()), (1, 1))

    def test_twin_goes_on_as_the_first_one(self):
        stream = [1] + framed([1, 0]) + [0] + framed([0]) + [1] * 393 + M + framed([1])
        for cut in range(len(stream) + 1):
            reader = Reader()
            reader.take(stream[:cut])
            twin = reader.twin()
            self.assertIs(type(twin), Reader)
            self.assertEqual((twin.hurt(), twin.waiting()), (reader.hurt(), reader.waiting()))
            self.assertEqual(twin.take(stream[cut:]), reader.take(stream[cut:]))
            self.assertEqual((twin.hurt(), twin.waiting()), (reader.hurt(), reader.waiting()))

    def test_reader_and_twin_each_by_itself(self):
        stream = framed([1, 0, 1, 1])
        for cut in range(len(stream) + 1):
            reader = Reader()
            told = reader.take(stream[:cut])
            stood = (reader.hurt(), reader.waiting())
            twin = reader.twin()
            twin.take([0, 0, 1] + M + [1] + M)
            self.assertEqual((reader.hurt(), reader.waiting()), stood)
            twin.forget()
            self.assertEqual((reader.hurt(), reader.waiting()), stood)
            second = reader.twin()
            self.assertEqual(told + reader.take(stream[cut:]), [[1, 0, 1, 1]])
            self.assertEqual((second.hurt(), second.waiting()), stood)
            self.assertEqual(told + second.take(stream[cut:]), [[1, 0, 1, 1]])

    def test_lists_that_were_told_and_handed_in_are_the_callers(self):
        reader = Reader()
        part = M + between([1, 0])[:5]
        reader.take(part)
        part[8:] = [1, 1, 1]
        part.append(9)
        told = reader.take(between([1, 0])[5:] + M)
        self.assertEqual(told, [[1, 0]])
        told[0].append(5)
        told.append([7])
        self.assertEqual(reader.take(between([1, 0]) + M), [[1, 0]])
        self.assertEqual((reader.hurt(), reader.waiting()), (0, 0))

    def test_told_bits_are_whole_numbers(self):
        payload = Reader().take(framed([1, 0]))[0]
        self.assertIs(type(payload), list)
        self.assertEqual([type(bit) for bit in payload], [int, int])
        self.assertIs(type(Reader().hurt()), int)

    def test_mark_is_not_changed(self):
        Reader().take(framed([1]) * 3)
        self.assertEqual(MARK, tuple(M))


if __name__ == "__main__":
    unittest.main()
