"""Promise 9, and 2 where it is about scramblers and descramblers."""

import unittest
from functools import partial

from helpers import HUGE, Checks, some_rows
from warbleline.errors import BadBit, BadCount
from warbleline.scramble import Descrambler, Scrambler

BOTH = (Scrambler, Descrambler)
WRONG_BITS = (2, -1, HUGE, -HUGE)

# Worked out by hand: the seed, the bits pushed, what comes out, the memory behind each bit.
SCRAMBLED = (
    (0, [1, 0, 0, 0, 0, 0, 0, 0, 0, 0, 0, 0, 0],
     [1, 0, 0, 0, 1, 0, 0, 1, 1, 0, 0, 0, 1],
     [64, 32, 16, 8, 68, 34, 17, 72, 100, 50, 25, 12, 70]),
    (127, [0, 0, 0, 0, 0, 0, 0, 0],
     [0, 0, 0, 0, 1, 1, 1, 0],
     [63, 31, 15, 7, 67, 97, 112, 56]),
    (9, [1, 1, 0, 1],
     [1, 1, 0, 0],
     [68, 98, 49, 24]),
)
DESCRAMBLED = (
    (0, [1, 0, 0, 0, 0, 0, 0, 0, 0],
     [1, 0, 0, 0, 1, 0, 0, 1, 0],
     [64, 32, 16, 8, 4, 2, 1, 0, 0]),
    (127, [0, 0, 0, 0, 0, 0, 0, 0],
     [0, 0, 0, 0, 1, 1, 1, 0],
     [63, 31, 15, 7, 3, 1, 0, 0]),
    (9, [1, 1, 0, 1],
     [1, 1, 0, 0],
     [68, 98, 49, 88]),
)


def by_words(kind, seed, bits):
    """What comes out and the memory behind it, by texts instead of numbers, as the document has it."""
    memory = format(seed, "07b")
    out = []
    for bit in bits:
        told = bit if memory[3] == memory[6] else 1 - bit
        out.append(told)
        memory = str(told if kind is Scrambler else bit) + memory[:6]
    return out, int(memory, 2)


class PushTest(Checks, unittest.TestCase):
    def test_by_hand(self):
        for kind, cases in ((Scrambler, SCRAMBLED), (Descrambler, DESCRAMBLED)):
            for seed, bits, out, memories in cases:
                with self.subTest(kind=kind, seed=seed):
                    thing = kind(seed=seed)
                    self.assertEqual(thing.push(bits), out)
                    self.assertEqual(thing.memory(), memories[-1])
                    thing = kind(seed=seed)
                    for at, bit in enumerate(bits):
                        self.assertEqual(thing.push([bit]), [out[at]])
                        self.assertEqual(thing.memory(), memories[at])

    def test_the_long_row_of_noughts(self):
        # A scrambler of seven 1 that gets only 0 tells 127 bits over and over, which are well known from radios.
        known = ("00001110 11110010 11001001 00000010 00100110 00101110 10110110 00001100 "
                 "11010100 11100111 10110100 00101010 11111010 01010001 10111000 1111111")
        row = [int(sign) for sign in known.replace(" ", "")]
        self.assertEqual(len(row), 127)
        thing = Scrambler(seed=127)
        self.assertEqual(thing.push([0] * 254), row + row)
        self.assertEqual(thing.memory(), 127)

    def test_each_seed(self):
        bits = some_rows(31, [40])[0]
        for kind in BOTH:
            for seed in range(128):
                thing = kind(seed=seed)
                self.assertEqual(thing.memory(), seed)
                out, memory = by_words(kind, seed, bits)
                self.assertEqual(thing.push(bits), out)
                self.assertEqual(thing.memory(), memory)

    def test_seed_left_out(self):
        bits = some_rows(32, [60])[0]
        for kind in BOTH:
            self.assertEqual(kind().memory(), 0)
            self.assertEqual(kind().push(bits), kind(seed=0).push(bits))
            self.assertEqual(kind().push(bits), by_words(kind, 0, bits)[0])

    def test_seed_only_by_its_name(self):
        for kind in BOTH:
            with self.assertRaises(TypeError):
                kind(5)

    def test_in_parts(self):
        bits = some_rows(33, [50])[0]
        for kind in BOTH:
            for seed in (0, 1, 77, 127):
                out, memory = by_words(kind, seed, bits)
                for cut in range(len(bits) + 1):
                    thing = kind(seed=seed)
                    self.assertEqual(thing.push(bits[:cut]) + thing.push(bits[cut:]), out)
                    self.assertEqual(thing.memory(), memory)
                thing = kind(seed=seed)
                self.assertEqual([told for bit in bits for told in thing.push([bit])], out)

    def test_empty_part(self):
        for kind in BOTH:
            thing = kind(seed=93)
            self.assertEqual(thing.push([]), [])
            self.assertEqual(thing.memory(), 93)
            thing.push([1, 0])
            before = thing.memory()
            self.assertEqual(thing.push([]), [])
            self.assertEqual(thing.memory(), before)
            self.assertIsNot(thing.push([]), thing.push([]))

    def test_by_name(self):
        self.assertEqual(Descrambler(seed=5).push(bits=Scrambler(seed=5).push(bits=[1, 0, 1])), [1, 0, 1])

    def test_long_row(self):
        bits = some_rows(34, [4000])[0]
        for kind in BOTH:
            out, memory = by_words(kind, 100, bits)
            thing = kind(seed=100)
            self.assertEqual(thing.push(bits), out)
            self.assertEqual(thing.memory(), memory)


class UndoneTest(unittest.TestCase):
    def test_by_the_same_seed(self):
        for length in (0, 1, 6, 7, 8, 20, 300):
            bits = some_rows(35 + length, [length])[0]
            for seed in range(128):
                scrambler, descrambler = Scrambler(seed=seed), Descrambler(seed=seed)
                self.assertEqual(descrambler.push(scrambler.push(bits)), bits)
                self.assertEqual(descrambler.memory(), scrambler.memory())

    def test_by_another_seed_from_the_eighth_bit_on(self):
        bits = some_rows(36, [30])[0]
        for seed in (0, 1, 64, 85, 127):
            out = Scrambler(seed=seed).push(bits)
            for other in range(128):
                back = Descrambler(seed=other).push(out)
                self.assertEqual(back[7:], bits[7:])
                # Each seed undoes the first seven in its own way.
                self.assertEqual(back[:7] == bits[:7], other == seed)

    def test_one_turned_bit_turns_just_three(self):
        for length in (1, 4, 5, 7, 8, 9, 30):
            bits = some_rows(37 + length, [length])[0]
            out = Scrambler(seed=77).push(bits)
            for at in range(length):
                hurt = list(out)
                hurt[at] = 1 - hurt[at]
                back = Descrambler(seed=77).push(hurt)
                turned = [place for place in range(length) if back[place] != bits[place]]
                self.assertEqual(turned, [place for place in (at, at + 4, at + 7) if place < length])


class RefusedTest(Checks, unittest.TestCase):
    def test_seeds(self):
        for kind in BOTH:
            for seed in (-1, 128, -128, 255, 1000, HUGE, -HUGE):
                self.refused(BadCount, partial(kind, seed=seed))
            for seed in (0, 1, 126, 127):
                self.assertEqual(kind(seed=seed).memory(), seed)

    def test_bad_bit(self):
        for kind in BOTH:
            for wrong in WRONG_BITS:
                self.refused(BadBit, kind().push, [wrong], at=0)
                self.refused(BadBit, kind().push, [1, 0, wrong], at=2)
                self.refused(BadBit, kind().push, [0, wrong, 1, 3, -5], at=1)

    def test_memory_is_as_it_was(self):
        for kind in BOTH:
            thing = kind(seed=45)
            thing.push([1, 1, 0])
            before = thing.memory()
            for part in ([2], [1, 0, 1, 2], [0] * 20 + [-1], [1] * 3999 + [HUGE]):
                self.refused(BadBit, thing.push, part, at=len(part) - 1)
                self.assertEqual(thing.memory(), before)
            self.assertEqual(thing.push([1, 0, 1]), by_words(kind, 45, [1, 1, 0, 1, 0, 1])[0][3:])


class ByItselfTest(Checks, unittest.TestCase):
    def test_twin_goes_on_as_the_first_one(self):
        bits = some_rows(38, [40])[0]
        for kind in BOTH:
            for cut in range(len(bits) + 1):
                thing = kind(seed=19)
                thing.push(bits[:cut])
                twin = thing.twin()
                self.assertIs(type(twin), kind)
                self.assertEqual(twin.memory(), thing.memory())
                self.assertEqual(twin.push(bits[cut:]), thing.push(bits[cut:]))
                self.assertEqual(twin.memory(), thing.memory())

    def test_thing_and_twin_each_by_itself(self):
        for kind in BOTH:
            thing = kind(seed=19)
            thing.push([1, 0, 0, 1])
            before = thing.memory()
            twin = thing.twin()
            twin.push([1, 1, 1, 0, 1])
            self.assertEqual(thing.memory(), before)
            twin = thing.twin()
            thing.push([0, 0, 1, 0, 0])
            self.assertEqual(twin.memory(), before)
            self.assertNotEqual(thing.memory(), before)

    def test_two_of_them(self):
        for kind in BOTH:
            one, other = kind(seed=3), kind(seed=3)
            one.push([1, 1, 1])
            self.assertEqual(other.memory(), 3)

    def test_asking_does_nothing(self):
        for kind in BOTH:
            thing = kind(seed=80)
            thing.push([1])
            self.assertEqual(thing.memory(), thing.memory())
            self.assertIs(type(thing.memory()), int)

    def test_lists_that_were_told_and_handed_in_are_the_callers(self):
        for kind in BOTH:
            bits = [1, 0, 1, 1, 0]
            self.tells(lambda row, kind=kind: kind(seed=66).push(row), bits, by_words(kind, 66, bits)[0])
            thing = kind(seed=66)
            told = thing.push(bits)
            memory = thing.memory()
            told[:] = [9] * 9
            bits[:] = [1 - bit for bit in bits]
            self.assertEqual(thing.memory(), memory)
            self.assertEqual(thing.push([0] * 8), by_words(kind, 66, [1, 0, 1, 1, 0] + [0] * 8)[0][5:])


if __name__ == "__main__":
    unittest.main()
