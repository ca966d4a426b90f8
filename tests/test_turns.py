"""Promises 1, 31 and 32, and 2 where it is about turns."""

import unittest
from functools import partial
from random import Random

from helpers import HUGE, Checks, PairByWords, pair_stands, quiet_noise
from warbleline.errors import BadCount, BadNoise, NoEnd
from warbleline.pair import ENDS, Pair
from warbleline.voice import Mouth
from warbleline.wire import Wire

SHARES = {"forth": (1, -2, 0, 3), "back": (-1, 2), "near": (3, 0, -1), "far": (2, 1, -3, 1)}
WIRES = ({}, SHARES, {"forth": (3, 3, 3, 3), "back": (-3, -3, -3, -3), "near": (3,), "far": (0, 0, 0, -3)})


def drawn_row(chance):
    return [chance.choice((32, 65, 66, 67, 255)) for place in range(chance.choice((0, 1, 2, 5, 12, 60)))]


class Both:
    """A pair and the same talk of single parts, whose turns must tell the same."""

    def __init__(self, test, wire):
        self.test = test
        self.pair, self.words = Pair(wire), PairByWords(wire)
        self.handed, self.told = {end: [] for end in ENDS}, {end: [] for end in ENDS}

    def hand(self, end, row):
        self.pair.hand(end, row)
        self.words.links[ENDS.index(end)].hand(row)
        self.handed[end].append(list(row))

    def turn_to(self, rate):
        self.pair.turn_to(rate)
        self.words.turn_to(rate)

    def turn(self, noise=(), deaf=()):
        told = self.pair.turn(noise=noise, deaf=deaf)
        self.test.assertEqual(told, self.words.turn(noise, deaf))
        for end, rows in zip(ENDS, told):
            self.told[end] += rows
            self.test.assertEqual(self.pair.told(end), self.told[end])
            self.test.assertEqual(self.pair.hurt(end), self.words.ears[ENDS.index(end)].hurt())
        self.test.assertEqual(self.pair.quiet(), self.words.pieces() == 0)

    def in_order(self):
        for end, other in (ENDS, ENDS[::-1]):
            self.test.assertEqual(self.told[end], self.handed[other][:len(self.told[end])])
            self.test.assertEqual(self.pair.untold(other), len(self.handed[other]) - len(self.told[end]))

    def all_told(self):
        self.test.assertEqual(self.told["one"], self.handed["other"])
        self.test.assertEqual(self.told["other"], self.handed["one"])


class TurnTest(Checks, unittest.TestCase):
    def test_by_hand(self):
        # An empty row is one piece of one bit: 9 bits, sealed 25, so its frame is within a burst of 64 bits.
        pair = Pair(Wire())
        pair.hand("one", [])
        self.assertEqual(pair.turn(), ([], [[]]))
        # It is told again until the answer came: the other end answers in the next turn.
        self.assertIs(pair.quiet(), False)
        self.assertEqual(pair.turn(), ([], []))
        self.assertIs(pair.quiet(), True)

    def test_pair_of_lists(self):
        told = Pair(Wire()).turn()
        self.assertIs(type(told), tuple)
        self.assertEqual([type(part) for part in told], [list, list])
        self.assertIsNot(told[0], told[1])

    def test_both_ways_at_once(self):
        pair = Pair(Wire(**SHARES))
        pair.hand("one", [])
        pair.hand("other", [])
        self.assertEqual(pair.turn(), ([[]], [[]]))
        pair.turn()
        self.assertIs(pair.quiet(), True)

    def test_as_of_its_parts(self):
        for wire in WIRES:
            for seed in range(6):
                chance, both = Random(seed), Both(self, Wire(**wire))
                for turn in range(120):
                    for end in ENDS:
                        if chance.random() < 0.08:
                            both.hand(end, drawn_row(chance))
                    if chance.random() < 0.1:
                        both.turn_to(chance.randint(1, 4))
                    noise = quiet_noise(chance, both.pair.rate()) if chance.random() < 0.8 else ()
                    both.turn(noise, [end for end in ENDS if chance.random() < 0.1])
                    both.in_order()

    def test_as_of_its_parts_with_great_noise(self):
        # Beyond what is promised frames are hurt, and sent anew.
        hurt = 0
        for seed in range(6):
            chance, both = Random(seed), Both(self, Wire(**SHARES))
            for turn in range(120):
                if chance.random() < 0.1:
                    both.hand(chance.choice(ENDS), drawn_row(chance))
                loud = chance.choice((0, 0, 6, 30, 9999))
                both.turn([(chance.randint(-loud, loud), chance.randint(-loud, loud)) for beat in range(18)])
            hurt += both.pair.hurt("one") + both.pair.hurt("other")
        self.assertGreater(hurt, 10)

    def test_noise_is_the_first_ends_first(self):
        # Noise that hurts at one end only.
        for at, end in enumerate(ENDS):
            pair = Pair(Wire())
            pair.hand("one", [])
            pair.hand("other", [])
            noise = [(77 * (1 - at), 77 * at)] * 18
            told = pair.turn(noise=noise)
            self.assertEqual((told[at], told[1 - at]), ([], [[]]))

    def test_deaf(self):
        for deaf, expected in (((), ([[]], [[]])), (("one",), ([], [[]])), (("other",), ([[]], [])),
                               (("one", "other"), ([], [])), (("other", "one", "other"), ([], []))):
            for handed in (tuple(deaf), list(deaf)):
                pair = Pair(Wire())
                pair.hand("one", [])
                pair.hand("other", [])
                self.assertEqual(pair.turn(deaf=handed), expected)
                pair.turns(10)
                self.assertEqual((pair.told("one"), pair.told("other")), ([[]], [[]]))

    def test_deaf_ends_say_all_the_same(self):
        pair = Pair(Wire())
        pair.hand("one", [1])
        self.assertEqual(pair.turn(deaf=["one"]), ([], [[1]]))

    def test_lists_and_tuples(self):
        noise = [(3, -3)] * 18
        pair, other = Pair(Wire()), Pair(Wire())
        for each in (pair, other):
            each.hand("one", [5])
        self.assertEqual(pair.turn(noise=noise, deaf=["one"]), other.turn(noise=tuple(noise), deaf=("one",)))
        self.assertEqual(pair_stands(pair), pair_stands(other))

    def test_no_noise(self):
        pair, other = Pair(Wire(**SHARES)), Pair(Wire(**SHARES))
        for each in (pair, other):
            each.hand("one", list(range(40)))
        for turn in range(8):
            handed = ((), [])[turn % 2]
            self.assertEqual(pair.turn(noise=handed), other.turn(noise=[(0, 0)] * 18))

    def test_refused(self):
        pair = Pair(Wire())
        pair.hand("one", [1, 2, 3])
        pair.turn(deaf=["other"])
        stands = pair_stands(pair)
        for many in (1, 17, 19, 20, 36, 4000):
            self.refused(BadNoise, partial(pair.turn, noise=[(0, 0)] * many))
            self.refused(BadNoise, partial(pair.turn, noise=((0, 0),) * many, deaf=["third"]))
        for name in ("third", "", "One", "one "):
            self.refused(NoEnd, partial(pair.turn, deaf=[name]), name=name)
            self.refused(NoEnd, partial(pair.turn, deaf=("one", name, "fourth"), noise=[(0, 0)] * 18), name=name)
        self.assertEqual(pair_stands(pair), stands)
        with self.assertRaises(TypeError):
            pair.turn([(0, 0)] * 18)


class TurnsTest(Checks, unittest.TestCase):
    def test_as_many_times_turn(self):
        for noise in ((), [(2, -2)] * 18, ((0, 1),) * 18):
            pair, other = Pair(Wire(**SHARES)), Pair(Wire(**SHARES))
            for many in (0, 1, 2, 7, 30):
                for each in (pair, other):
                    each.hand("one", [many] * 12)
                    each.hand("other", [many])
                told = ([], [])
                for turn in range(many):
                    here = other.turn(noise=noise)
                    told[0].extend(here[0])
                    told[1].extend(here[1])
                self.assertEqual(pair.turns(many, noise=noise), told)
                self.assertEqual(pair_stands(pair), pair_stands(other))
        self.assertEqual(pair.turns(many=0), ([], []))

    def test_bounds(self):
        pair = Pair(Wire())
        self.assertEqual(pair.turns(0), ([], []))
        self.assertEqual(len(pair), 0)
        pair.turns(999)
        self.assertEqual(len(pair), 999)

    def test_refused(self):
        pair = Pair(Wire())
        pair.hand("one", [1])
        stands = pair_stands(pair)
        for many in (-1, 1000, HUGE, -HUGE):
            self.refused(BadCount, pair.turns, many)
            self.refused(BadCount, partial(pair.turns, noise=[(0, 0)]), many)
        for many in (0, 1, 999):
            for length in (1, 17, 19):
                self.refused(BadNoise, partial(pair.turns, noise=[(0, 0)] * length), many)
        self.assertEqual(pair_stands(pair), stands)


class ForgedTest(unittest.TestCase):
    """What reaches the other end by noise that makes other tones of those that were said."""

    def forge(self, pair, payload, many):
        """Let the other end hear a burst with this payload's frame in it, so many times."""
        mouth, forger, told = Mouth(rate=4), Mouth(rate=4), []
        for turn in range(many):
            if turn == 1:
                forger.tell(payload)
            noise = [(0, there - here) for here, there in zip(mouth.burst(), forger.burst())]
            told.append(pair.turn(noise=noise))
        return told

    def test_refused_payloads_are_let_go(self):
        for payload in ([1], [0] * 7, [1] * 8, [0, 0, 0, 0, 0, 0, 1, 1, 0, 1], [0, 0, 0, 0, 0, 0, 0, 1],
                        [0, 0, 0, 0, 0, 0, 1, 1, 1] + [1] * 9):
            pair = Pair(Wire())
            self.assertEqual(self.forge(pair, payload, 4), [([], [])] * 4)
            self.assertEqual((pair.told("other"), pair.hurt("other"), pair.quiet()), ([], 0, True))
            pair.hand("one", [5])
            pair.hand("other", [6])
            self.assertEqual(pair.turns(20), ([[6]], [[5]]))

    def test_more_told_than_handed(self):
        pair = Pair(Wire())
        told = self.forge(pair, [0, 0, 0, 0, 0, 0, 1, 1, 0, 0, 1, 0, 0, 0, 0, 0, 1], 4)
        self.assertEqual(sum([here[1] for here in told], []), [[65]])
        self.assertEqual((pair.told("other"), pair.untold("one"), pair.untold("other")), ([[65]], 0, 0))
        self.assertEqual(pair.twin().hang(), ([], []))
        # The rows behind as many as were told there: of the first one that is handed nothing is untold.
        pair.hand("one", [1])
        self.assertEqual(pair.untold("one"), 0)
        pair.hand("one", [2])
        self.assertEqual(pair.untold("one"), 1)
        self.assertEqual(pair.hang(), ([[2]], []))


class TalkTest(unittest.TestCase):
    def talk(self, seed, wire, *, deaf=0.0, rates=False, many=150):
        chance, both = Random(seed), Both(self, Wire(**wire))
        for turn in range(many):
            for end in ENDS:
                if chance.random() < 0.06 and both.words.links[ENDS.index(end)].waiting() < 40:
                    both.hand(end, drawn_row(chance))
            if rates and chance.random() < 0.15:
                both.turn_to(chance.randint(1, 4))
            both.turn(quiet_noise(chance, both.pair.rate()), [end for end in ENDS if chance.random() < deaf])
            both.in_order()
        self.finish(chance, both)

    def finish(self, chance, both):
        """In 80 turns for each piece and 80 more, in which no end is deaf, all is told."""
        due = 80 * both.words.pieces() + 80
        turns = 0
        while not both.pair.quiet():
            both.turn(quiet_noise(chance, both.pair.rate()))
            both.in_order()
            turns += 1
            self.assertLessEqual(turns, due)
        for turn in range(20):
            both.turn()
            self.assertIs(both.pair.quiet(), True)
        both.all_told()
        self.assertEqual((both.pair.hurt("one"), both.pair.hurt("other")), (0, 0))
        self.assertEqual(both.words.refused, 0)

    def test_with_noise(self):
        for seed in range(3):
            for wire in WIRES:
                self.talk(seed, wire)

    def test_deaf_ends(self):
        for deaf in (0.1, 0.3, 0.6, 0.95):
            for wire in WIRES[1:]:
                self.talk(11, wire, deaf=deaf)

    def test_rates_turned(self):
        for seed in range(3):
            self.talk(seed + 20, SHARES, rates=True)

    def test_deaf_ends_and_rates_turned(self):
        for seed in range(8):
            self.talk(seed + 30, WIRES[seed % 3], deaf=0.3, rates=True)

    def test_quiet_at_the_lowest_rate(self):
        # As many pieces as may wait at both ends.
        chance, both = Random(41), Both(self, Wire(**SHARES))
        both.turn_to(1)
        for end in ENDS:
            while both.words.links[ENDS.index(end)].waiting() < 40:
                both.hand(end, [chance.randrange(256) for place in range(60)])
        self.finish(chance, both)

    def test_one_end_deaf_for_long(self):
        for end in ENDS:
            chance, both = Random(42), Both(self, Wire(**SHARES))
            both.hand("one", list(range(60)))
            both.hand("other", list(range(60)))
            for turn in range(60):
                both.turn(deaf=[end])
                both.in_order()
            self.assertEqual(both.pair.told(end), [])
            self.finish(chance, both)

    def test_every_other_turn_deaf(self):
        chance, both = Random(43), Both(self, Wire(**SHARES))
        both.turn_to(1)
        for end in ENDS:
            both.hand(end, [1, 2, 3, 4, 5, 6])
        for turn in range(60):
            both.turn(deaf=[ENDS[turn % 2]])
        both.turn_to(4)
        for turn in range(60):
            both.turn(deaf=[ENDS[turn % 2]])
            both.in_order()
        self.finish(chance, both)

    def test_each_deaf_turn_of_a_short_talk(self):
        for rate in (1, 4):
            for mask in range(64):
                chance, both = Random(mask), Both(self, Wire(**SHARES))
                both.turn_to(rate)
                both.hand("one", [7, 8, 9])
                both.hand("other", [1, 1, 1, 1, 1, 1, 1])
                for turn in range(12):
                    both.turn(deaf=[ENDS[turn % 2]] if mask >> (turn // 2) & 1 else [])
                self.finish(chance, both)


if __name__ == "__main__":
    unittest.main()
