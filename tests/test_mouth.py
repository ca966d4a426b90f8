"""Promise 22, and 2 where it is about mouths."""

import unittest
from functools import lru_cache, partial

from helpers import HUGE, Checks, some_rows
from test_scramble import by_words as scrambled_by_words
from test_shape import by_words as shaped_by_words
from test_trellis import places
from warbleline.errors import BadBit, BadCount, BadRate, BadTaps, Full, TooLong
from warbleline.frames import MARK, framed
from warbleline.scramble import Scrambler
from warbleline.voice import MOST_QUEUE, Mouth

RATES = (1, 2, 3, 4)
WRONG_RATES = (0, 5, -1, HUGE, -HUGE)
SHARES = ((), (1,), (0, 0, 0, -3), (3, -2, 1, 2))
MARK_BITS = [0, 1, 1, 1, 1, 1, 1, 0]


class ByWords:
    """A mouth of single stages, as the document has it."""

    def __init__(self, shares, rate, seed):
        self.shares, self.rate, self.seed = shares, rate, seed
        self.queue, self.taken, self.values = [], [], []

    def tell(self, payload):
        self.queue += framed(payload)

    def burst(self):
        many = 16 * self.rate
        while len(self.queue) < many:
            self.queue += MARK_BITS
        before = len(self.taken)
        self.taken += self.queue[:many]
        del self.queue[:many]
        bits = scrambled_by_words(Scrambler, self.seed, self.taken)[0][before:]
        self.values += places(bits, self.rate)
        return shaped_by_words(self.shares, self.values)[-18:]


@lru_cache(maxsize=None)
def bits_of_frame(length):
    """A payload whose frame has so many bits, as a tuple."""
    for row in some_rows(length, [max(1, length - 32 - less) for less in range(20)] * 20):
        if len(framed(row)) == length:
            return tuple(row)
    raise AssertionError(f"no payload has a frame of {length} bits")


def payload_of_frame(length):
    return list(bits_of_frame(length))


def filled_to(many):
    """A mouth with just so many bits in its queue, which came by tell alone."""
    mouth = Mouth()
    while many - mouth.waiting() > 400:
        mouth.tell(payload_of_frame(200))
    rest = many - mouth.waiting()
    mouth.tell(payload_of_frame(rest // 2))
    mouth.tell(payload_of_frame(rest - rest // 2))
    return mouth


class BurstTest(unittest.TestCase):
    def test_by_hand(self):
        # Two marks; 0 1 1 1 1 1 1 0 0 1 1 1 1 1 1 0 scrambled from a memory of noughts.
        scrambled = [0, 1, 1, 1, 1, 0, 0, 1, 0, 0, 0, 1, 1, 1, 0, 1]
        self.assertEqual(Scrambler().push(MARK_BITS * 2), scrambled)
        # Older and newer go 00, 00, 01, 11, 11, 11, 10, 00, 01, 10, 00, 00, 01, 11, 11, 10, and in the tail 01, 10.
        numbers = [0, 2, 3, 1, 1, 3, 2, 2, 1, 2, 0, 2, 3, 1, 3, 0, 1, 2]
        mouth = Mouth()
        self.assertEqual(mouth.burst(), [-96 + 64 * number for number in numbers])
        self.assertEqual(mouth.waiting(), 0)

    def test_shaped_by_hand(self):
        mouth = Mouth((1,))
        # -96, then 32 less -96, folded: -128; then 96 less -128: -32; then -32 less -32.
        self.assertEqual(mouth.burst()[:4], [-96, -128, -32, 0])

    def test_from_the_stages(self):
        for rate in RATES:
            for shares in SHARES:
                for seed in (0, 9, 127):
                    mouth, words = Mouth(shares, rate=rate, seed=seed), ByWords(shares, rate, seed)
                    for payload in some_rows(40 + rate, [1, 30, 256, 8]):
                        mouth.tell(payload)
                        words.tell(payload)
                    for turn in range(4 + 40 // rate):
                        burst = mouth.burst()
                        self.assertEqual(burst, words.burst())
                        self.assertEqual(mouth.waiting(), len(words.queue))
                        self.assertIs(type(burst), list)
                        self.assertEqual(len(burst), 18)
                        self.assertTrue(all(-128 <= tone <= 127 for tone in burst))

    def test_left_out_and_by_name(self):
        self.assertEqual(Mouth().burst(), ByWords((), 1, 0).burst())
        self.assertEqual(Mouth(shares=(1, 2), rate=3, seed=5).burst(), ByWords((1, 2), 3, 5).burst())
        self.assertEqual(Mouth((0,) * 4000).burst(), Mouth().burst())
        self.assertEqual(Mouth((2, 0, 0, 0, 0, 0)).burst(), Mouth((2,)).burst())
        with self.assertRaises(TypeError):
            Mouth((), 2)

    def test_payload_told_between_bursts(self):
        for rate in RATES:
            mouth, words = Mouth((1, -1), rate=rate), ByWords((1, -1), rate, 0)
            for turn, payload in enumerate(some_rows(50, range(1, 30))):
                if turn % 3 != 1:
                    mouth.tell(payload)
                    words.tell(payload)
                self.assertEqual(mouth.burst(), words.burst())
                self.assertEqual(mouth.waiting(), len(words.queue))

    def test_rate_turned_between(self):
        mouth, words = Mouth((2, 1)), ByWords((2, 1), 1, 0)
        for turn, rate in enumerate((1, 4, 4, 2, 3, 1, 4, 3, 2, 1, 1, 3)):
            if turn % 4 == 0:
                payload = some_rows(60 + turn, [150])[0]
                mouth.tell(payload)
                words.tell(payload)
            self.assertIsNone(mouth.turn_to(rate))
            words.rate = rate
            self.assertEqual(mouth.waiting(), len(words.queue))
            self.assertEqual(mouth.burst(), words.burst())


class QueueTest(unittest.TestCase):
    def test_marks_behind_too_few_bits(self):
        for rate in RATES:
            many = 16 * rate
            for length in range(40, 40 + many):
                mouth = Mouth(rate=rate)
                mouth.tell(payload_of_frame(length))
                self.assertEqual(mouth.waiting(), length)
                left = length
                for turn in range(8):
                    mouth.burst()
                    while left < many:
                        left += 8
                    left -= many
                    self.assertEqual(mouth.waiting(), left)

    def test_empty_queue(self):
        for rate in RATES:
            mouth = Mouth(rate=rate)
            self.assertEqual(mouth.waiting(), 0)
            for turn in range(3):
                mouth.burst()
                self.assertEqual(mouth.waiting(), 0)

    def test_no_mark_where_there_are_just_enough(self):
        mouth = Mouth(rate=4)
        mouth.tell(payload_of_frame(64))
        mouth.burst()
        self.assertEqual(mouth.waiting(), 0)

    def test_frame_at_the_end(self):
        mouth = Mouth()
        one, other = some_rows(70, [20, 90])
        self.assertIsNone(mouth.tell(one))
        self.assertEqual(mouth.waiting(), len(framed(one)))
        mouth.tell(payload=other)
        self.assertEqual(mouth.waiting(), len(framed(one)) + len(framed(other)))
        mouth.burst()
        self.assertEqual(mouth.waiting(), len(framed(one)) + len(framed(other)) - 16)

    def test_frame_behind_left_marks(self):
        # 41 bits and a mark make 49 for three bursts of 16, so one bit of the mark is left ahead of the next frame.
        mouth = Mouth()
        mouth.tell(payload_of_frame(41))
        for turn in range(3):
            mouth.burst()
        self.assertEqual(mouth.waiting(), 1)
        payload = payload_of_frame(50)
        mouth.tell(payload)
        self.assertEqual(mouth.waiting(), 51)
        words = ByWords((), 1, 0)
        words.queue = framed(payload_of_frame(41)) + list(MARK) + framed(payload)
        for turn in range(3):
            words.burst()
        self.assertEqual([mouth.burst() for turn in range(4)], [words.burst() for turn in range(4)])


class RefusedTest(Checks, unittest.TestCase):
    def unchanged(self, mouth, deed):
        """The deed, which is refused, leaves the mouth as it was."""
        twin, many = mouth.twin(), mouth.waiting()
        deed()
        self.assertEqual(mouth.waiting(), many)
        kept = mouth.twin()
        for turn in range(8):
            self.assertEqual(kept.burst(), twin.burst())

    def test_full(self):
        self.assertEqual(MOST_QUEUE, 2000)
        just, beyond = filled_to(2000), filled_to(1999)
        beyond.tell([1])
        self.assertEqual(just.waiting(), 2000)
        for mouth in (just, beyond):
            self.unchanged(mouth, lambda mouth=mouth: self.refused(Full, mouth.tell, [1, 0, 1], most=2000))

    def test_not_full(self):
        mouth = filled_to(1999)
        self.assertEqual(mouth.waiting(), 1999)
        mouth.tell([1] * 256)
        self.assertEqual(mouth.waiting(), 1999 + len(framed([1] * 256)))
        self.refused(Full, mouth.tell, [1], most=2000)
        mouth = filled_to(2000)
        self.refused(Full, mouth.tell, [1], most=2000)
        mouth.burst()
        mouth.tell([1])

    def test_what_framed_refuses_goes_first(self):
        for mouth in (Mouth(), filled_to(1999), filled_to(2000)):
            self.unchanged(mouth, lambda mouth=mouth: self.refused(BadBit, mouth.tell, [0, 1, 2, -1], at=2))
            self.unchanged(mouth, lambda mouth=mouth: self.refused(BadBit, mouth.tell, [1] * 300 + [HUGE], at=300))
            self.unchanged(mouth, lambda mouth=mouth: self.refused(BadCount, mouth.tell, []))
            self.unchanged(mouth, lambda mouth=mouth: self.refused(TooLong, mouth.tell, [1] * 257, most=256))

    def test_rates(self):
        for rate in WRONG_RATES:
            self.refused(BadRate, partial(Mouth, rate=rate))
            mouth = Mouth((1,), rate=2)
            mouth.tell([1, 0, 1])
            self.unchanged(mouth, lambda mouth=mouth, rate=rate: self.refused(BadRate, mouth.turn_to, rate))

    def test_order(self):
        for rate in WRONG_RATES:
            self.refused(BadRate, partial(Mouth, (4,), rate=rate, seed=128))
            self.refused(BadRate, partial(Mouth, (4,), rate=rate))
            self.refused(BadRate, partial(Mouth, rate=rate, seed=-1))
        for shares in ((4,), (-4,), (0, 0, 0, 0, 1)):
            self.refused(BadTaps, partial(Mouth, seed=128), shares)
            self.refused(BadTaps, Mouth, shares)
        for seed in (-1, 128, HUGE, -HUGE):
            self.refused(BadCount, partial(Mouth, (3, 0, 0, 0, 0), rate=4, seed=seed))


class ByItselfTest(unittest.TestCase):
    def test_twin_goes_on_as_the_first_one(self):
        for rate in RATES:
            for cut in range(8):
                mouth = Mouth((1, 0, 2), rate=rate, seed=33)
                mouth.tell(some_rows(80, [100])[0])
                for turn in range(cut):
                    mouth.burst()
                twin = mouth.twin()
                self.assertIs(type(twin), Mouth)
                self.assertEqual(twin.waiting(), mouth.waiting())
                for turn in range(6):
                    if turn == 2:
                        mouth.tell([1, 1, 0])
                        twin.tell([1, 1, 0])
                    self.assertEqual(twin.burst(), mouth.burst())

    def test_each_by_itself(self):
        deeds = (lambda mouth: mouth.burst(), lambda mouth: mouth.tell([1]), lambda mouth: mouth.turn_to(3))
        for deed in deeds:
            mouth = Mouth((1, 2), rate=2)
            mouth.tell([1, 0, 0, 1] * 10)
            mouth.burst()
            kept = Mouth((1, 2), rate=2)
            kept.tell([1, 0, 0, 1] * 10)
            kept.burst()
            many = kept.waiting()
            twin, acting = mouth.twin(), mouth.twin()
            deed(acting)
            self.assertEqual((mouth.waiting(), twin.waiting()), (many, many))
            deed(mouth)
            self.assertEqual(twin.waiting(), many)
            self.assertEqual([twin.burst() for turn in range(4)], [kept.burst() for turn in range(4)])

    def test_lists_are_the_callers(self):
        mouth, words = Mouth((3, 1)), ByWords((3, 1), 1, 0)
        payload = some_rows(90, [60])[0]
        before = list(payload)
        mouth.tell(payload)
        words.tell(payload)
        self.assertEqual(payload, before)
        payload[:] = [0] * 99
        for turn in range(6):
            burst = mouth.burst()
            self.assertEqual(burst, words.burst())
            burst[:] = [55] * 3

    def test_asking_does_nothing(self):
        mouth = Mouth()
        mouth.tell([1])
        self.assertEqual(mouth.waiting(), mouth.waiting())


if __name__ == "__main__":
    unittest.main()
