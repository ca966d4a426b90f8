"""Promise 23, and 2 where it is about ears."""

import unittest
from functools import partial
from random import Random

from helpers import HUGE, Checks, quiet_noise, some_rows
from test_mouth import ByWords, payload_of_frame
from warbleline.errors import BadCount, BadNoise, BadRate, BadTaps
from warbleline.frames import Reader, framed
from warbleline.points import folded
from warbleline.scramble import Descrambler
from warbleline.trellis import heard_path
from warbleline.voice import Ear, Mouth
from warbleline.wire import Wire

RATES = (1, 2, 3, 4)
WRONG_RATES = (0, 5, -1, HUGE, -HUGE)
SHARES = {"forth": (1, -2, 0, 3), "back": (-1, 2), "near": (3, 0, -1), "far": (2, 1, -3, 1)}
SILENCE = [0] * 18


class Talk:
    """Both ends' mouths and ears over one wire, with what each end should be told."""

    def __init__(self, rate, seed=0, shares=SHARES):
        self.wire = Wire(**shares)
        self.rate = rate
        self.mouths = [Mouth(shares["forth"], rate=rate, seed=seed), Mouth(shares["back"], rate=rate, seed=seed)]
        self.ears = [Ear(shares["near"], rate=rate, seed=seed), Ear(shares["far"], rate=rate, seed=seed)]
        # For each mouth: the frames told to it, as (payload, place of its first bit, place behind its last one).
        self.frames = [[], []]
        self.sent = [0, 0]
        self.lost = [[], []]
        self.skips = [False, False]

    def tell(self, end, payload):
        begin = self.sent[end] + self.mouths[end].waiting()
        self.mouths[end].tell(payload)
        self.frames[end].append((payload, begin, begin + len(framed(payload))))

    def turn_to(self, rate):
        self.rate = rate
        for thing in self.mouths + self.ears:
            thing.turn_to(rate)

    def due(self, end):
        """The payloads whose frames end in the next burst of this end's mouth, but for lost ones."""
        here, there = self.sent[end], self.sent[end] + 16 * self.rate
        return [payload for payload, begin, behind in self.frames[end] if here < behind <= there
                and not any(begin < stop and start < behind for start, stop in self.lost[end])]

    def turn(self, noises, deaf=(), rings=(0, 0)):
        """A burst of both ends; what each ear told, and what each one should have told."""
        for end in (0, 1):
            here = self.sent[end]
            if 1 - end in deaf:
                self.lost[end].append((here, here + 16 * self.rate))
                self.skips[end] = True
            elif self.skips[end]:
                self.lost[end].append((here, here + 7))
                self.skips[end] = False
        expected = [self.due(1), self.due(0)]
        said = [mouth.burst() for mouth in self.mouths]
        heard = [self.wire.beat(one, other, noise=noise) for one, other, noise in zip(*said, noises, strict=True)]
        told = []
        for end in (0, 1):
            self.sent[end] += 16 * self.rate
            if end in deaf:
                told.append(self.ears[end].deaf(said[end]) or [])
            else:
                numbers = [both[end] + 256 * rings[end] for both in heard]
                told.append(self.ears[end].hear(numbers, said[end]))
        return told, expected


class HearTest(unittest.TestCase):
    def agree(self, both):
        told, expected = both
        self.assertEqual(told, expected)
        return len(told[0]) + len(told[1])

    def test_both_ends_speak(self):
        for rate in RATES:
            for seed in (0, 77):
                chance, talk, many = Random(rate), Talk(rate, seed), 0
                rows = some_rows(rate, [1, 8, 9, 48, 100, 256, 3, 17])
                for turn in range(30 + 1200 // (16 * rate)):
                    if turn % 3 == 0 and rows:
                        talk.tell(turn % 2, rows.pop())
                    noises = quiet_noise(chance, rate)
                    many += self.agree(talk.turn(noises, rings=(chance.randint(-9, 9), chance.randint(-9, 9))))
                self.assertEqual(many, 8)
                self.assertEqual([ear.hurt() for ear in talk.ears], [0, 0])

    def test_rate_turned_between(self):
        chance, talk, many = Random(12), Talk(4), 0
        rows = some_rows(13, [48] * 12)
        for turn in range(80):
            if turn % 5 == 0 and rows:
                talk.tell(turn % 2, rows.pop())
            talk.turn_to(chance.randint(1, 4))
            many += self.agree(talk.turn(quiet_noise(chance, talk.rate)))
        self.assertEqual(many, 12)

    def test_greatest_noise_in_one_beat(self):
        # The square of each is the greatest one below a quarter of the least distance.
        for rate, most in ((1, 95), (2, 47), (3, 23), (4, 11)):
            for beat in range(18):
                talk = Talk(rate)
                talk.tell(0, [1, 0, 1, 1])
                talk.tell(1, [0, 0, 1])
                noises = [(0, 0)] * 18
                noises[beat] = (most, -most)
                many = sum(self.agree(talk.turn(noises)) for turn in range(1 + 48 // (16 * rate)))
                self.assertEqual(many, 2)

    def test_several_in_one_burst(self):
        # No more than one right frame of 33 bits or more ends in a burst of 64 bits, but two where one began before.
        talk = Talk(4)
        payloads = some_rows(14, [1] * 9)
        for payload in payloads:
            talk.tell(0, payload)
        told = []
        for turn in range(8):
            here, expected = talk.turn([(0, 0)] * 18)
            self.assertEqual(here, expected)
            told.append(here[1])
        self.assertIn(2, [len(part) for part in told])
        self.assertEqual([payload for part in told for payload in part], payloads)

    def test_whole_rings(self):
        for rate in RATES:
            chance, mouth, ear = Random(15), Mouth(rate=rate), Ear(rate=rate)
            payload = some_rows(16, [80])[0]
            mouth.tell(payload)
            told = []
            for turn in range(10):
                told += ear.hear([tone + 256 * chance.choice((0, 1, -7, HUGE)) for tone in mouth.burst()], SILENCE)
            self.assertEqual(told, [payload])

    def test_own_voice(self):
        for echo in ((), (3,), (0, -2), (1, 2, 3), (-3, 1, -1, 2), (2, 0, 0, 0, 0, 0)):
            chance, mouth, ear = Random(17), Mouth(rate=2), Ear(echo=echo, rate=2)
            wire = Wire(far=echo)
            payload = some_rows(18, [100])[0]
            mouth.tell(payload)
            told = []
            for turn in range(6):
                own = [chance.randint(-999, 999) for beat in range(18)]
                heard = [wire.beat(one, other)[1] for one, other in zip(mouth.burst(), own, strict=True)]
                told += ear.hear(heard=heard, own=own)
            self.assertEqual(told, [payload])

    def test_from_the_stages(self):
        for rate in RATES:
            chance, echo, seed = Random(rate), (1, 0, -3, 2), 100
            ear = Ear(echo, rate=rate, seed=seed)
            descrambler, reader, said = Descrambler(seed=seed), Reader(), []
            for turn in range(40):
                heard = [chance.randint(-2000, 2000) for beat in range(18)]
                own = [chance.randint(-2000, 2000) for beat in range(18)]
                values = []
                for number, tone in zip(heard, own):
                    said.insert(0, tone)
                    values.append(folded(number - sum(share * past for share, past in zip(echo, said))))
                bits = descrambler.push(heard_path(values, rate=rate)[0])
                self.assertEqual(ear.hear(heard, own), reader.take(bits))
                self.assertEqual(ear.hurt(), reader.hurt())


class HurtTest(unittest.TestCase):
    def test_hurt_frame(self):
        mouth, ear = Mouth(), Ear()
        self.assertEqual(ear.hurt(), 0)
        mouth.tell([1, 0, 1, 1] * 20)
        mouth.tell([0, 1])
        told = []
        for turn in range(12):
            burst = mouth.burst()
            told += ear.hear([0] * 18 if turn == 3 else burst, SILENCE)
        self.assertEqual(told, [[0, 1]])
        self.assertEqual(ear.hurt(), 1)
        self.assertEqual(ear.hurt(), 1)

    def test_another_seed(self):
        # Only the first seven bits come out otherwise, so the first frame alone is missed.
        mouth, ear = Mouth(seed=5), Ear(seed=99)
        payloads = some_rows(21, [30, 31])
        for payload in payloads:
            mouth.tell(payload)
        told = [payload for turn in range(12) for payload in ear.hear(mouth.burst(), SILENCE)]
        self.assertEqual(told, payloads[1:])


class DeafTest(unittest.TestCase):
    def test_told_nothing(self):
        self.assertIsNone(Ear().deaf(SILENCE))
        self.assertIsNone(Ear().deaf(own=SILENCE))

    def test_many_ways(self):
        for rate in RATES:
            many = 0
            for way in range(12):
                chance, talk = Random(100 * rate + way), Talk(rate)
                for turn in range(400 // (4 * rate)):
                    for end in (0, 1):
                        if talk.mouths[end].waiting() < 200 and chance.random() < 0.7:
                            talk.tell(end, some_rows(chance.random(), [chance.randint(1, 60)])[0])
                    deaf = [end for end in (0, 1) if chance.random() < (0.15, 0.4)[way % 2]]
                    told, expected = talk.turn(quiet_noise(chance, talk.rate), deaf)
                    self.assertEqual(told, expected)
                    many += len(told[0]) + len(told[1])
                    if way % 3 == 0:
                        talk.turn_to(chance.randint(1, 4))
                self.assertEqual([ear.hurt() for ear in talk.ears], [0, 0])
            self.assertGreater(many, 100)

    def heard_behind(self, ahead, deaf):
        """What is told of a frame that begins behind so many bits, of which these bursts are not heard."""
        mouth, ear = Mouth(rate=1), Ear(rate=1)
        first, payload = payload_of_frame(ahead), [1, 0, 0, 1, 1]
        mouth.tell(first)
        mouth.tell(payload)
        told = []
        for turn in range(14):
            burst = mouth.burst()
            if turn in deaf:
                ear.deaf(SILENCE)
            else:
                told += ear.hear(burst, SILENCE)
        self.assertEqual(ear.hurt(), 0)
        return told

    def test_just_the_first_seven_bits(self):
        # Behind 48 bits the fourth burst begins.
        for ahead in range(48, 64):
            for deaf in ((2,), (1, 2), (0, 1, 2)):
                expected = [[1, 0, 0, 1, 1]] if ahead >= 55 else []
                self.assertEqual(self.heard_behind(ahead, deaf), expected)

    def test_only_the_next_heard_burst(self):
        # The second burst behind a missed one is heard whole: a frame that begins with it is told.
        self.assertEqual(self.heard_behind(64, (2,)), [[1, 0, 0, 1, 1]])
        self.assertEqual(self.heard_behind(48, (1,)), [[1, 0, 0, 1, 1]])
        self.assertEqual(self.heard_behind(48, (0,)), [[1, 0, 0, 1, 1]])
        self.assertEqual(self.heard_behind(48, (9, 10)), [payload_of_frame(48), [1, 0, 0, 1, 1]])

    def test_own_voice_is_kept(self):
        for echo in ((0, 0, 0, 3), (0, 2), (1, -1, 2, -2)):
            for many in (1, 2, 5):
                chance, mouth, ear, wire = Random(31), Mouth(rate=4), Ear(echo, rate=4), Wire(far=echo)
                payload = some_rows(32, [64])[0]
                told = []
                for turn in range(many + 5):
                    if turn == many + 2:
                        mouth.tell(payload)
                    own = [chance.randint(-9999, 9999) for beat in range(18)]
                    heard = [wire.beat(one, other)[1] for one, other in zip(mouth.burst(), own)]
                    if 1 <= turn <= many:
                        ear.deaf(own)
                    else:
                        told += ear.hear(heard, own)
                self.assertEqual(told, [payload])
                # Every burst is marks or the one frame, so a voice that is not taken off whole would hurt.
                self.assertEqual(ear.hurt(), 0)

    def test_first_beats_behind_a_deaf_burst(self):
        # What the own end said in the missed burst is in the first three numbers of the next one.
        ear, mouth = Ear((0, 0, 0, 1), rate=4), Mouth(rate=4)
        mouth.tell([1] * 40)
        first = mouth.burst()
        ear.hear(first, SILENCE)
        other = ear.twin()
        ear.deaf([0] * 15 + [5, 6, 7])
        other.deaf([0] * 18)
        payload = payload_of_frame(57)
        # Seven bits go, then comes a frame: its first bits stand in the second beat.
        words = ByWords((), 4, 0)
        words.queue = [0] * 7 + framed(payload)
        burst = words.burst()
        voice = [burst[0] + 5 + 256, burst[1] + 6, burst[2] + 7] + burst[3:]
        self.assertEqual(ear.hear(voice, SILENCE), [payload])
        self.assertEqual(other.hear(burst, SILENCE), [payload])

    def test_reader_forgets(self):
        # Without the missed burst the two halves would make a frame.
        payload = payload_of_frame(64)
        mouth, ear = Mouth(rate=2), Ear(rate=2)
        mouth.tell(payload)
        bursts = [mouth.burst() for turn in range(4)]
        self.assertEqual([ear.twin().hear(bursts[0], SILENCE)], [[]])
        ear.hear(bursts[0], SILENCE)
        ear.deaf(SILENCE)
        self.assertEqual([ear.hear(burst, SILENCE) for burst in bursts[1:]], [[], [], []])
        self.assertEqual(ear.hurt(), 0)

    def test_deaf_at_the_beginning(self):
        talk = Talk(2)
        talk.tell(0, [1] * 20)
        for turn in range(8):
            if turn == 3:
                talk.tell(0, [0, 1])
            told, expected = talk.turn([(0, 0)] * 18, [1] if turn == 0 else [])
            self.assertEqual(told, expected)


class RefusedTest(Checks, unittest.TestCase):
    def ear(self):
        """An ear in the middle of a frame, behind its own voice."""
        talk = Talk(2)
        talk.tell(0, some_rows(41, [90])[0])
        for turn in range(2):
            talk.turn([(0, 0)] * 18)
        return talk

    def finish(self, talk, ear):
        """What this ear would tell of the rest of the talk."""
        told, mouths, wire = [], [mouth.twin() for mouth in talk.mouths], talk.wire.twin()
        for turn in range(6):
            said = [mouth.burst() for mouth in mouths]
            heard = [wire.beat(one, other)[1] for one, other in zip(*said)]
            told.append(ear.hear(heard, said[1]))
        return told, ear.hurt()

    def test_bad_noise(self):
        talk = self.ear()
        ear = talk.ears[1]
        expected = self.finish(talk, ear.twin())
        self.assertEqual(expected[0].count([some_rows(41, [90])[0]]), 1)
        for many in (0, 1, 17, 19, 36, 4000):
            wrong, right = [9] * many, [7] * 18
            self.refused(BadNoise, ear.hear, wrong, right)
            self.refused(BadNoise, ear.hear, right, wrong)
            self.refused(BadNoise, ear.hear, wrong, wrong)
            self.refused(BadNoise, ear.deaf, wrong)
            self.assertEqual(self.finish(talk, ear.twin()), expected)

    def test_bad_noise_keeps_the_bits_left_out(self):
        ear, other = Ear(), Ear()
        ear.deaf(SILENCE)
        other.deaf(SILENCE)
        self.refused(BadNoise, ear.hear, [1] * 17, SILENCE)
        mouth = Mouth()
        mouth.tell([1, 1, 1])
        for turn in range(5):
            burst = mouth.burst()
            self.assertEqual(ear.hear(burst, SILENCE), other.hear(burst, SILENCE))
            self.assertEqual(ear.hurt(), other.hurt())

    def test_order(self):
        for rate in WRONG_RATES:
            self.refused(BadRate, partial(Ear, (4,), rate=rate, seed=128))
            self.refused(BadRate, partial(Ear, rate=rate))
        for echo in ((4,), (-4,), (0, 0, 0, 0, 1), (0,) * 3999 + (1,)):
            self.refused(BadTaps, partial(Ear, seed=128), echo)
            self.refused(BadTaps, Ear, echo)
        for seed in (-1, 128, HUGE, -HUGE):
            self.refused(BadCount, partial(Ear, (3,) + (0,) * 99, rate=4, seed=seed))
        with self.assertRaises(TypeError):
            Ear((), 2)

    def test_turn_to(self):
        talk = self.ear()
        ear = talk.ears[1]
        expected = self.finish(talk, ear.twin())
        for rate in WRONG_RATES:
            self.refused(BadRate, ear.turn_to, rate)
        self.assertIsNone(ear.turn_to(2))
        self.assertEqual(self.finish(talk, ear.twin()), expected)


class ByItselfTest(unittest.TestCase):
    def test_twin_goes_on_as_the_first_one(self):
        for rate in RATES:
            chance = Random(rate)
            ear, mouth = Ear((1, 2, 3, -1), rate=rate, seed=3), Mouth(rate=rate, seed=3)
            for turn in range(30):
                if turn % 4 == 0:
                    mouth.tell(some_rows(turn, [20])[0])
                twin = ear.twin()
                self.assertIs(type(twin), Ear)
                self.assertEqual(twin.hurt(), ear.hurt())
                heard = mouth.burst()
                own = [chance.randint(-3, 3) for beat in range(18)]
                if turn % 7 == 3:
                    ear.deaf(own)
                    twin.deaf(own)
                self.assertEqual(twin.hear(heard, own), ear.hear(heard, own))
                self.assertEqual(twin.hurt(), ear.hurt())
                self.assertEqual(twin.hear(heard, own), ear.twin().hear(heard, own))

    def test_twin_of_an_ear_that_was_deaf(self):
        # The frame begins with the first bit, so neither the ear nor its twin hears it.
        mouth, ear = Mouth(rate=4), Ear(rate=4)
        mouth.tell([1, 0, 1])
        burst = mouth.burst()
        self.assertEqual(ear.twin().hear(burst, SILENCE), [[1, 0, 1]])
        ear.deaf(SILENCE)
        twin = ear.twin()
        self.assertEqual(twin.hear(burst, SILENCE), [])
        self.assertEqual(ear.hear(burst, SILENCE), [])

    def test_each_by_itself(self):
        mouth = Mouth(rate=2)
        payload = some_rows(51, [50])[0]
        mouth.tell(payload)
        bursts = [mouth.burst() for turn in range(5)]
        deeds = (lambda ear: ear.hear(bursts[0], [8] * 18), lambda ear: ear.deaf([5] * 18),
                 lambda ear: ear.turn_to(3))
        for deed in deeds:
            ear = Ear((0, 3, 1), rate=2)
            ear.hear(bursts[0], SILENCE)
            twin = ear.twin()
            deed(twin)
            other = ear.twin()
            self.assertEqual([told for burst in bursts[1:] for told in ear.hear(burst, SILENCE)], [payload])
            deed(ear)
            self.assertEqual([told for burst in bursts[1:] for told in other.hear(burst, SILENCE)], [payload])

    def test_lists_are_the_callers(self):
        mouth, ear = Mouth(rate=4), Ear((0, 0, 0, 2), rate=4)
        payloads = some_rows(52, [20, 20, 20])
        for payload in payloads:
            mouth.tell(payload)
        told, own, kept = [], [3] * 18, []
        wire = Wire(far=(0, 0, 0, 2))
        for turn in range(6):
            own[:] = [turn - 3] * 18
            heard = [wire.beat(one, other)[1] for one, other in zip(mouth.burst(), own)]
            before = (list(heard), list(own))
            part = ear.hear(heard, own)
            self.assertEqual((heard, own), before)
            self.assertIs(type(part), list)
            told += [list(payload) for payload in part]
            kept.append(part)
            for payload in part:
                payload.clear()
            part.append("more")
            heard.clear()
            own[:] = [777] * 18
        self.assertEqual(told, payloads)


if __name__ == "__main__":
    unittest.main()
