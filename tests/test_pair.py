"""Promises 30 and 33 (but for the tape), and 2 where it is about them."""

import unittest
from functools import partial
from itertools import product

from helpers import HUGE, Checks, PairByWords, pair_stands
from warbleline.errors import (
    Away, BadByte, BadCount, BadNoise, BadRate, BadTaps, Full, NoEnd, NoRate, NotOpen, TooLong)
from warbleline.pair import ENDS, Pair
from warbleline.wire import Wire

QUIET = [(0, 0)] * 20
SHARES = {"forth": (1, -2, 0, 3), "back": (-1, 2), "near": (3, 0, -1), "far": (2, 1, -3, 1)}
KINDS = ((), (1,), (0, 0, 0, -3), (3, -3, 1))
WRONG_RATES = (0, 5, -1, HUGE, -HUGE)
WRONG_ENDS = ("", "third", "One", "one ", "OTHER", "two")


def with_noise(at, both):
    return QUIET[:at] + [both] + QUIET[at + 1:]


def talked(pair, one, other, many=60):
    """Both rows handed over, and told at the other end."""
    pair.hand("one", one)
    pair.hand("other", other)
    return pair.turns(many)


def signs(text):
    return [ord(sign) for sign in text]


def full_pair():
    """A pair with as many pieces waiting at either end as may."""
    pair = Pair(Wire())
    for end in ENDS:
        for turn in range(40):
            pair.hand(end, [])
    return pair


class MadeTest(Checks, unittest.TestCase):
    def test_ends(self):
        self.assertEqual(ENDS, ("one", "other"))

    def test_new(self):
        pair = Pair(Wire())
        self.assertEqual((pair.rate(), pair.quiet(), len(pair), pair.tape()), (4, True, 0, []))
        for end in ENDS:
            self.assertEqual((pair.told(end), pair.untold(end), pair.hurt(end)), ([], 0, 0))
        self.assertEqual(repr(pair), "Pair(rate 4, 0 turns)")

    def test_wires_of_each_kind(self):
        for shares in product(KINDS, repeat=4):
            pair = Pair(Wire(**dict(zip(("forth", "back", "near", "far"), shares))))
            self.assertEqual(talked(pair, [1, 2, 3], [255] * 20, 12), ([[255] * 20], [[1, 2, 3]]))
            self.assertEqual((pair.hurt("one"), pair.hurt("other"), pair.quiet()), (0, 0, True))

    def test_as_of_its_parts(self):
        # The greatest noise in each beat shows that mouths and ears know all four shares, from the first beat on.
        for shares in (SHARES, {name: (3, 3, 3, 3) for name in SHARES}):
            pair, words = Pair(Wire(**shares)), PairByWords(Wire(**shares))
            for turn in range(60):
                if turn % 6 == 0:
                    pair.hand("one", [turn, 1, 2])
                    words.links[0].hand([turn, 1, 2])
                    pair.hand("other", [turn] * 9)
                    words.links[1].hand([turn] * 9)
                noise = [(0, 0)] * 18
                noise[turn % 18] = (11, -11)
                self.assertEqual(pair.turn(noise=noise), words.turn(noise))
            self.assertEqual(len(pair.told("one")), 10)

    def test_wire_is_as_it_was(self):
        wire = Wire(**SHARES)
        for tone in (100, -77, 31, 5):
            wire.beat(tone, tone * 3)
        kept = wire.twin()
        pair = Pair(wire)
        self.assertEqual(wire, kept)
        self.assertEqual(talked(pair, [1], [2]), ([[2]], [[1]]))
        self.assertEqual(wire, kept)

    def test_hushed(self):
        wire = Wire(**SHARES)
        for tone in (100, -77, 31, 5):
            wire.beat(tone, tone * 3)
        pair, other = Pair(wire), Pair(Wire(**SHARES))
        for each in (pair, other):
            each.hand("one", [1])
            each.hand("other", [2])
        told = [each.turns(3) for each in (pair, other)]
        self.assertEqual(told[0], ([[2]], [[1]]))
        self.assertEqual(told[0], told[1])
        self.assertEqual(pair_stands(pair), pair_stands(other))

    def test_two_pairs_over_one_wire(self):
        wire = Wire(**SHARES)
        one, other = Pair(wire), Pair(wire)
        one.hand("one", [5] * 30)
        one.turns(3)
        self.assertEqual(pair_stands(other), pair_stands(Pair(Wire(**SHARES))))
        self.assertEqual(talked(other, [1], [2]), ([[2]], [[1]]))
        wire.beat(999, 999)
        self.assertEqual(one.turns(30), ([], [[5] * 30]))

    def test_rate_by_the_paper(self):
        for loud, rate in ((0, 4), (2, 4), (3, 3), (5, 3), (6, 2), (11, 2), (12, 1), (22, 1)):
            for beat in (5, 9, 15, 19):
                for both in ((loud, 0), (-loud, 0), (0, loud), (0, -loud)):
                    pair = Pair(Wire(near=(2,)), noises=with_noise(beat, both))
                    self.assertEqual(pair.rate(), rate)
                    self.assertEqual(repr(pair), f"Pair(rate {rate}, 0 turns)")
            self.assertEqual(talked(pair, [7, 8], [9]), ([[9]], [[7, 8]]))

    def test_noises(self):
        self.assertEqual(Pair(Wire(), noises=[]).rate(), 4)
        self.assertEqual(Pair(Wire(), noises=()).rate(), 4)
        noises = with_noise(7, (4, 0))
        kept = list(noises)
        pair = Pair(wire=Wire(), noises=noises)
        self.assertEqual(noises, kept)
        self.assertEqual(pair.rate(), 3)
        self.assertEqual(Pair(Wire(), noises=tuple(noises)).rate(), 3)
        # Noise in the beats of the probes is not that of silence.
        self.assertEqual(Pair(Wire(), noises=[(400, -400)] * 5 + QUIET[:5] + [(-400, 400)] * 5 + QUIET[:5]).rate(), 4)

    def test_shapes_by_what_it_learnt(self):
        # A share that is learnt wrong is used all the same: the other end then hears nothing right.
        pair = Pair(Wire(), noises=with_noise(1, (0, 1000)))
        pair.hand("one", [1])
        pair.hand("other", [2])
        self.assertEqual(pair.turns(20), ([[2]], []))
        pair = Pair(Wire(), noises=with_noise(10, (0, 1000)))
        pair.hand("one", [1])
        pair.hand("other", [2])
        self.assertEqual(pair.turns(20), ([[2]], []))
        pair = Pair(Wire(), noises=with_noise(0, (1000, 0)))
        pair.hand("one", [1])
        pair.hand("other", [2])
        self.assertEqual(pair.turns(20), ([], [[1]]))
        pair = Pair(Wire(), noises=with_noise(12, (1000, 0)))
        pair.hand("one", [1])
        pair.hand("other", [2])
        self.assertEqual(pair.turns(20), ([], [[1]]))

    def test_refused(self):
        wire = Wire(**SHARES)
        wire.beat(1, 2)
        kept = wire.twin()
        for many in (1, 18, 19, 21, 4000):
            self.refused(BadNoise, partial(Pair, wire, noises=[(0, 0)] * many))
        for beat, both in ((0, (0, 500)), (4, (500, 0)), (1, (0, 9000)), (10, (500, 0)), (14, (0, -501))):
            self.refused(BadTaps, partial(Pair, wire, noises=with_noise(beat, both)))
        for loud in (23, 24, 9000, HUGE):
            self.refused(NoRate, partial(Pair, wire, noises=with_noise(5, (-loud, 0))), loud=loud)
        for pause in (0, 21, -1, HUGE, -HUGE):
            self.refused(BadCount, partial(Pair, wire, pause=pause))
        self.assertEqual(wire, kept)

    def test_order_of_refusals(self):
        loud_and_bad = [(9000, 9000)] * 20
        self.refused(BadNoise, partial(Pair, Wire(), noises=loud_and_bad[:19], pause=0))
        self.refused(BadTaps, partial(Pair, Wire(), noises=loud_and_bad, pause=0))
        self.refused(NoRate, partial(Pair, Wire(), noises=with_noise(5, (0, 23)), pause=0), loud=23)
        self.refused(BadCount, partial(Pair, Wire(), noises=with_noise(5, (0, 22)), pause=0))
        with self.assertRaises(TypeError):
            Pair(Wire(), QUIET)


class HandTest(Checks, unittest.TestCase):
    def test_told_and_untold(self):
        pair = Pair(Wire(**SHARES))
        self.assertIsNone(pair.hand("one", [1, 2]))
        self.assertIsNone(pair.hand(end="one", row=[]))
        pair.hand("other", [3])
        self.assertEqual((pair.untold("one"), pair.untold("other")), (2, 1))
        self.assertIs(pair.quiet(), False)
        self.assertEqual(pair.turns(40), ([[3]], [[1, 2], []]))
        self.assertEqual((pair.untold("one"), pair.untold("other")), (0, 0))
        self.assertEqual((pair.told("one"), pair.told("other")), ([[3]], [[1, 2], []]))
        self.assertIs(pair.quiet(), True)
        pair.hand("one", [1, 2])
        self.assertEqual((pair.untold("one"), pair.untold("other")), (1, 0))
        pair.turns(40)
        self.assertEqual(pair.told("other"), [[1, 2], [], [1, 2]])

    def as_before(self, pair, kind, call, *handed, **values):
        stands = pair_stands(pair)
        self.refused(kind, call, *handed, **values)
        self.assertEqual(pair_stands(pair), stands)

    def test_refused(self):
        pair = Pair(Wire())
        pair.hand("one", [1])
        pair.turn()
        for name in WRONG_ENDS:
            self.as_before(pair, NoEnd, pair.hand, name, [300] * 99, name=name)
        for end in ENDS:
            self.as_before(pair, BadByte, pair.hand, end, [0] * 70 + [256], at=70)
            self.as_before(pair, BadByte, pair.hand, end, [-1], at=0)
            self.as_before(pair, TooLong, pair.hand, end, [0] * 61, most=60)
        pair = full_pair()
        for end in ENDS:
            self.as_before(pair, Full, pair.hand, end, [], most=40)
            self.as_before(pair, TooLong, pair.hand, end, [0] * 61, most=60)
            self.as_before(pair, BadByte, pair.hand, end, [1, 400], at=1)
            self.as_before(pair, Full, pair.hand, end, [0] * 60, most=40)

    def test_ends_are_not_mixed(self):
        pair = Pair(Wire())
        for turn in range(40):
            pair.hand("one", [])
        self.refused(Full, pair.hand, "one", [], most=40)
        pair.hand("other", [])
        self.assertEqual((pair.untold("one"), pair.untold("other")), (40, 1))

    def test_questions_refuse_names(self):
        pair = Pair(Wire())
        for name in WRONG_ENDS:
            for call in (pair.told, pair.untold, pair.hurt):
                self.refused(NoEnd, call, name, name=name)
        pair.hang()
        for call in (pair.told, pair.untold, pair.hurt):
            self.refused(NoEnd, call, "third", name="third")


class KeyTest(Checks, unittest.TestCase):
    def test_through(self):
        pair = Pair(Wire(**SHARES))
        self.assertIs(pair.key("one", signs("hi")), False)
        self.assertIs(pair.key(end="other", row=[]), False)
        self.assertEqual((pair.untold("one"), pair.untold("other")), (1, 0))
        pair.key("one", [])
        self.assertEqual(pair.untold("one"), 1)
        self.assertEqual(pair.turns(30), ([], [signs("hi")]))

    def test_held_ones(self):
        pair = Pair(Wire())
        for turn in range(2):
            self.assertIs(pair.key("one", signs("+")), False)
        self.assertEqual(pair.untold("one"), 0)
        pair.key("one", signs("x"))
        self.assertEqual(pair.untold("one"), 1)
        self.assertEqual(pair.turns(30), ([], [signs("++x")]))
        pair = Pair(Wire())
        for text in ("+", "", "", ""):
            pair.key("other", signs(text))
        self.assertEqual(pair.turns(30), ([signs("+")], []))

    def test_guards_of_both_ends(self):
        pair = Pair(Wire())
        pair.key("one", signs("++"))
        pair.key("other", signs("+"))
        for turn in range(3):
            for end in ENDS:
                self.assertIs(pair.key(end, []), False)
        self.assertEqual(pair.turns(30), ([signs("+")], [signs("++")]))

    def sign(self, pair, end, pause=3):
        found = [pair.key(end, signs("+++"))] + [pair.key(end, []) for turn in range(pause)]
        self.assertEqual(found, [False] * pause + [True])

    def test_away_and_back(self):
        for end, other in (ENDS, ENDS[::-1]):
            pair = Pair(Wire())
            self.sign(pair, end)
            for row in ([], [65], [43], [300]):
                stands = pair_stands(pair)
                self.refused(Away, pair.key, end, row, name=end)
                self.assertEqual(pair_stands(pair), stands)
            self.assertIs(pair.key(other, [66]), False)
            # Rows are handed and told all the same.
            pair.hand(end, [1])
            pair.turns(30)
            self.assertEqual((pair.told(end), pair.told(other)), ([[66]], [[1]]))
            self.assertIsNone(pair.back(end))
            self.assertIs(pair.key(end, [67]), False)
            pair.turns(30)
            self.assertEqual(pair.told(other), [[1], [67]])

    def test_away_again(self):
        pair = Pair(Wire())
        for turn in range(3):
            self.sign(pair, "one")
            self.refused(Away, pair.key, "one", [], name="one")
            pair.back("one")
        self.assertIs(pair.quiet(), True)

    def test_back_where_it_is_not_away(self):
        pair = Pair(Wire())
        self.assertIsNone(pair.back("one"))
        self.assertIsNone(pair.back(end="one"))
        self.assertEqual(pair.key("one", [65]), False)
        # It changes nothing of what the guard holds.
        pair = Pair(Wire())
        pair.key("one", signs("+++"))
        pair.back("one")
        self.assertEqual([pair.key("one", []) for turn in range(3)], [False, False, True])

    def test_back_of_one_end_only(self):
        pair = Pair(Wire())
        self.sign(pair, "one")
        self.sign(pair, "other")
        pair.back("one")
        self.assertIs(pair.key("one", [1]), False)
        self.refused(Away, pair.key, "other", [1], name="other")

    def test_pauses(self):
        for pause in (1, 2, 20):
            pair = Pair(Wire(), pause=pause)
            self.sign(pair, "one", pause)
            self.sign(pair, "other", pause)

    def test_order_of_refusals(self):
        pair = Pair(Wire())
        self.sign(pair, "one")
        for name in WRONG_ENDS:
            self.refused(NoEnd, pair.key, name, [300], name=name)
            self.refused(NoEnd, pair.back, name, name=name)
        self.refused(Away, pair.key, "one", [300], name="one")
        self.refused(BadByte, pair.key, "other", [0] * 61 + [300, -1], at=61)
        self.refused(TooLong, pair.key, "other", [0] * 61, most=60)
        pair = full_pair()
        self.refused(BadByte, pair.key, "one", [300], at=0)
        self.refused(TooLong, pair.key, "one", [0] * 61, most=60)
        self.refused(Full, pair.key, "one", [0], most=40)

    def test_guard_is_as_ahead_of_a_key_that_is_too_long(self):
        pair = Pair(Wire())
        pair.key("one", signs("++"))
        stands = pair_stands(pair)
        # With the held ones it is 61 bytes.
        self.refused(TooLong, pair.key, "one", [65] * 59, most=60)
        self.assertEqual(pair_stands(pair), stands)
        pair.key("one", [65] * 58)
        self.assertEqual(pair.turns(60), ([], [signs("++") + [65] * 58]))

    def test_guard_is_as_ahead_of_a_key_that_has_no_room(self):
        pair = full_pair()
        # What is held needs no room yet.
        self.assertIs(pair.key("one", signs("+")), False)
        stands = pair_stands(pair)
        self.refused(Full, pair.key, "one", signs("x"), most=40)
        self.assertEqual(pair_stands(pair), stands)
        pair.key("one", [])
        pair.key("one", [])
        stands = pair_stands(pair)
        # This beat would make the pause whole, and what is held has no room: it is not counted.
        for turn in range(3):
            self.refused(Full, pair.key, "one", [], most=40)
            self.assertEqual(pair_stands(pair), stands)
        pair.turn()
        pair.key("one", [43])
        self.assertEqual([pair.key("one", []) for turn in range(3)], [False] * 3)
        pair.turns(400)
        self.assertEqual(pair.told("other"), [[]] * 40 + [signs("++")])

    def test_sign_needs_no_room(self):
        self.sign(full_pair(), "one")


class HangTest(Checks, unittest.TestCase):
    def test_of_a_new_pair(self):
        self.assertEqual(Pair(Wire()).hang(), ([], []))

    def test_untold_rows(self):
        pair = Pair(Wire())
        for row in ([1], [2], [3]):
            pair.hand("one", row)
        pair.hand("other", [9])
        self.assertEqual(pair.twin().hang(), ([[1], [2], [3]], [[9]]))
        while not pair.told("other"):
            pair.turn()
        told = len(pair.told("other"))
        self.assertLess(told, 3)
        left = pair.untold("other")
        self.assertEqual(pair.hang(), ([[1], [2], [3]][told:], [[9]][1 - left:]))

    def test_after_all_is_told(self):
        pair = Pair(Wire())
        pair.hand("one", [1])
        pair.turns(20)
        self.assertEqual(pair.hang(), ([], []))

    def test_keyed_rows(self):
        pair = Pair(Wire())
        for text in ("ab", "", "", "", "+"):
            pair.key("other", signs(text))
        pair.key("one", signs("+++"))
        # What a guard holds was not handed.
        self.assertEqual(pair.hang(), ([], [signs("ab")]))

    def test_no_further_deeds(self):
        pair = Pair(Wire())
        pair.hand("one", [1])
        pair.hang()
        stands = pair_stands(pair)
        calls = (
            partial(pair.hand, "one", [1]), partial(pair.hand, "third", [300]), partial(pair.key, "one", [1]),
            partial(pair.key, "third", [300]), partial(pair.back, "one"), partial(pair.back, "third"),
            pair.turn, partial(pair.turn, noise=[(0, 0)]), partial(pair.turn, deaf=["third"]),
            partial(pair.turns, 3), partial(pair.turns, 0), partial(pair.turns, -1),
            partial(pair.turns, 2, noise=[(1, 1)]), partial(pair.turn_to, 1), partial(pair.retrain, 0),
            partial(pair.retrain, -1), partial(pair.retrain, 999), pair.hang, partial(pair.play, []),
            partial(pair.play, [("hang",)]), partial(pair.play, [("hand", "third", [300])]))
        for call in calls:
            self.refused(NotOpen, call)
            self.assertEqual(pair_stands(pair), stands)
        for rate in WRONG_RATES:
            self.refused(BadRate, pair.turn_to, rate)

    def test_away_and_hung_up(self):
        pair = Pair(Wire(), pause=1)
        pair.key("one", signs("+++"))
        self.assertIs(pair.key("one", []), True)
        pair.hang()
        self.refused(NotOpen, pair.key, "one", [])

    def test_questions_are_answered(self):
        pair = Pair(Wire())
        pair.hand("one", [1])
        pair.hand("other", [2])
        pair.turns(20)
        pair.hand("one", [3])
        pair.turn_to(2)
        pair.hang()
        self.assertEqual((pair.told("one"), pair.told("other")), ([[2]], [[1]]))
        self.assertEqual((pair.untold("one"), pair.untold("other")), (1, 0))
        self.assertEqual((pair.hurt("one"), pair.hurt("other")), (0, 0))
        self.assertEqual((pair.rate(), pair.quiet(), len(pair)), (2, False, 20))
        self.assertEqual(repr(pair), "Pair(rate 2, 20 turns)")
        self.assertEqual(pair.tape()[-1], ("hang",))
        self.refused(NotOpen, pair.twin().turn)


class RateTest(Checks, unittest.TestCase):
    def test_turn_to(self):
        pair = Pair(Wire(**SHARES))
        for rate in (1, 2, 3, 4, 1):
            self.assertIsNone(pair.turn_to(rate))
            self.assertEqual(pair.rate(), rate)
            self.assertEqual(talked(pair, [rate], [rate, 7]), ([[rate, 7]], [[rate]]))
        pair.turn_to(rate=2)
        self.assertEqual(pair.rate(), 2)

    def test_bad_rate(self):
        pair = Pair(Wire())
        stands = pair_stands(pair)
        for rate in WRONG_RATES:
            self.refused(BadRate, pair.turn_to, rate)
            self.assertEqual(pair_stands(pair), stands)

    def test_retrain(self):
        pair = Pair(Wire())
        for loud, paper in ((22, (1, 36864, 8712)), (0, (4, 576, 0)), (5, (3, 2304, 450)), (6, (2, 9216, 648))):
            self.assertEqual(pair.retrain(loud), paper)
            self.assertEqual(pair.rate(), paper[0])
            self.assertEqual(talked(pair, [loud], []), ([[]], [[loud]]))
        self.assertEqual(pair.retrain(loud=12), (1, 36864, 2592))

    def test_retrain_refused(self):
        pair = Pair(Wire())
        pair.turn_to(2)
        stands = pair_stands(pair)
        for loud in (-1, -HUGE):
            self.refused(BadCount, pair.retrain, loud)
        for loud in (23, HUGE):
            self.refused(NoRate, pair.retrain, loud, loud=loud)
        self.assertEqual(pair_stands(pair), stands)


class ShownTest(unittest.TestCase):
    def test_len_and_repr(self):
        pair = Pair(Wire())
        pair.hand("one", [1])
        self.assertEqual((len(pair), repr(pair)), (0, "Pair(rate 4, 0 turns)"))
        pair.turn()
        self.assertEqual((len(pair), repr(pair)), (1, "Pair(rate 4, 1 turns)"))
        pair.turns(3)
        pair.turns(0)
        pair.turn_to(2)
        pair.turn(deaf=("one", "other"))
        self.assertEqual((len(pair), repr(pair), str(pair)), (5, "Pair(rate 2, 5 turns)", "Pair(rate 2, 5 turns)"))


class ByItselfTest(unittest.TestCase):
    def pair(self):
        """A pair in the middle of a talk."""
        pair = Pair(Wire(**SHARES))
        pair.hand("one", list(range(50)))
        pair.hand("other", [1, 2, 3])
        pair.turns(4)
        pair.turn(deaf=["one"])
        pair.key("one", signs("++"))
        pair.key("other", signs("+++"))
        return pair

    def test_twin_goes_on_as_the_first_one(self):
        pair = self.pair()
        twin = pair.twin()
        self.assertIs(type(twin), Pair)
        self.assertEqual(pair_stands(twin), pair_stands(pair))
        for turn in range(30):
            self.assertEqual(twin.turn(), pair.turn())
            self.assertEqual(twin.key("one", [43]), pair.key("one", [43]))
        self.assertEqual(pair_stands(twin), pair_stands(pair))

    def test_each_by_itself(self):
        deeds = (lambda pair: pair.turn(), lambda pair: pair.hand("one", [7]), lambda pair: pair.key("other", []),
                 lambda pair: pair.key("one", [1]), lambda pair: pair.back("one"), lambda pair: pair.turn_to(1),
                 lambda pair: pair.hang(), lambda pair: pair.play([("rate", 2)]), lambda pair: pair.turns(9),
                 lambda pair: pair.retrain(9), lambda pair: [pair.key("other", []) for turn in range(3)])
        for deed in deeds:
            pair, kept = self.pair(), self.pair()
            stands = pair_stands(kept)
            twin = pair.twin()
            deed(twin)
            self.assertEqual(pair_stands(pair), stands)
            self.assertNotEqual(pair_stands(twin), stands)
            twin = pair.twin()
            deed(pair)
            self.assertEqual(pair_stands(twin), stands)

    def test_asking_does_nothing(self):
        pair = self.pair()
        self.assertEqual(pair_stands(pair), pair_stands(pair))
        self.assertEqual(pair_stands(pair), pair_stands(self.pair()))

    def test_lists_are_the_callers(self):
        pair, kept = Pair(Wire()), Pair(Wire())
        rows = [[1, 2, 3], [], [4] * 20]
        for row in rows:
            handed = list(row)
            pair.hand("one", handed)
            self.assertEqual(handed, row)
            handed[:] = [9, 9]
            keyed = list(row) or [8]
            pair.key("other", keyed)
            keyed[:] = [7]
            kept.hand("one", list(row))
            kept.key("other", list(row) or [8])
        for turn in range(40):
            noise, deaf = [(1, -1)] * 18, ["one"] if turn == 2 else []
            told = pair.turn(noise=noise, deaf=deaf)
            self.assertEqual((noise, deaf), ([(1, -1)] * 18, ["one"] if turn == 2 else []))
            noise.clear()
            deaf.append("third")
            for part in told:
                for row in part:
                    row.append(99)
                part.append([98])
            for end in ENDS:
                shown = pair.told(end)
                for row in shown:
                    row.append(97)
                shown.append([96])
            for deed in pair.tape():
                for part in deed:
                    if isinstance(part, list):
                        part.append(5)
            pair.tape().clear()
            kept.turn(noise=((1, -1),) * 18, deaf=("one",) if turn == 2 else ())
        self.assertEqual(pair.told("other"), rows)
        self.assertEqual(pair_stands(pair), pair_stands(kept))
        pair.hand("one", [5])
        left = pair.twin().hang()
        left[0][0].append(6)
        left[0].append(7)
        told = pair.turns(30)
        told[1][0].append(8)
        self.assertEqual(pair.told("other")[-1], [5])
        pair.hand("one", [5])
        left = pair.hang()
        left[0][0].append(6)
        left[0].clear()
        self.assertEqual(pair.untold("one"), 1)
        self.assertEqual(pair.tape()[-2:], [("hand", "one", [5]), ("hang",)])


    def test_untold_rows_are_copies(self):
        pair, row, keyed = Pair(Wire()), [1, 2], [3]
        pair.hand("one", row)
        pair.key("other", keyed)
        row.append(9)
        keyed.append(9)
        # A twin's rows are not the first one's.
        left = pair.twin().hang()
        self.assertEqual(left, ([[1, 2]], [[3]]))
        for rows in left:
            rows[0].append(8)
            rows.append([7])
        self.assertEqual(pair.hang(), ([[1, 2]], [[3]]))


if __name__ == "__main__":
    unittest.main()
