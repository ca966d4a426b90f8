"""Promise 33 where it is about the tape, and 2 there."""

import unittest
from functools import partial
from random import Random

from helpers import HUGE, Checks, pair_stands, quiet_noise
from warbleline.errors import (
    Away, BadByte, BadCount, BadNoise, BadRate, Full, LineError, Missing, NoEnd, NoRate, NotOpen, TooLong)
from warbleline.pair import ENDS, Pair
from warbleline.wire import Wire

SHARES = {"forth": (1, -2, 0, 3), "back": (-1, 2), "near": (3, 0, -1), "far": (2, 1, -3, 1)}
NOISE = [(at - 9, 9 - at) for at in range(18)]
MARKS = [43, 43, 43]


class TapeTest(Checks, unittest.TestCase):
    def test_new(self):
        self.assertEqual(Pair(Wire()).tape(), [])

    def test_each_deed(self):
        pair = Pair(Wire(), pause=1)
        expected = []

        def stands(deed):
            expected.append(deed)
            self.assertEqual(pair.tape(), expected)

        pair.hand("one", [1, 2])
        stands(("hand", "one", [1, 2]))
        pair.hand("other", [])
        stands(("hand", "other", []))
        pair.key("one", MARKS)
        stands(("key", "one", MARKS))
        pair.key("one", [])
        stands(("key", "one", []))
        pair.back("one")
        stands(("back", "one"))
        pair.back("other")
        stands(("back", "other"))
        pair.turn()
        stands(("turn", [], []))
        pair.turn(noise=tuple(NOISE), deaf=("other", "one", "other"))
        stands(("turn", NOISE, ["other", "one", "other"]))
        pair.turn(noise=NOISE)
        stands(("turn", NOISE, []))
        pair.turn(deaf=["one"])
        stands(("turn", [], ["one"]))
        pair.turn_to(2)
        stands(("rate", 2))
        pair.turn_to(2)
        stands(("rate", 2))
        pair.retrain(3)
        stands(("rate", 3))
        pair.hang()
        stands(("hang",))

    def test_kinds(self):
        pair = Pair(Wire())
        pair.hand("one", [1])
        pair.turn(noise=tuple(NOISE), deaf=("one",))
        tape = pair.tape()
        self.assertEqual([type(deed) for deed in tape], [tuple, tuple])
        self.assertEqual([type(part) for part in tape[1]], [str, list, list])
        self.assertEqual({type(both) for both in tape[1][1]}, {tuple})
        self.assertIs(type(tape[0][2]), list)

    def test_turns_stand_as_turns(self):
        pair = Pair(Wire())
        pair.turns(3, noise=tuple(NOISE))
        self.assertEqual(pair.tape(), [("turn", NOISE, [])] * 3)
        pair.turns(0)
        pair.turns(2)
        self.assertEqual(pair.tape(), [("turn", NOISE, [])] * 3 + [("turn", [], [])] * 2)

    def test_questions_are_no_deeds(self):
        pair = Pair(Wire())
        pair_stands(pair)
        self.assertEqual(pair.tape(), [])

    def test_refused_deeds_do_not_stand(self):
        pair = Pair(Wire(), pause=1)
        pair.key("one", MARKS)
        pair.key("one", [])
        tape = pair.tape()
        calls = ((Away, partial(pair.key, "one", [])), (BadByte, partial(pair.hand, "one", [300])),
                 (TooLong, partial(pair.hand, "one", [1] * 61)), (NoEnd, partial(pair.back, "x")),
                 (BadNoise, partial(pair.turn, noise=[(0, 0)])), (NoEnd, partial(pair.turn, deaf=["x"])),
                 (BadCount, partial(pair.turns, -1)), (BadRate, partial(pair.turn_to, 9)),
                 (BadCount, partial(pair.retrain, -1)), (NoRate, partial(pair.retrain, 99)),
                 (NoEnd, partial(pair.play, [("turn", [], []), ("back", "x")])))
        for kind, call in calls:
            self.refused(kind, call)
            self.assertEqual(pair.tape(), tape)
        pair.hang()
        self.refused(NotOpen, pair.hang)
        self.assertEqual(pair.tape(), tape + [("hang",)])

    def test_told_tape_is_the_callers(self):
        pair = Pair(Wire())
        pair.hand("one", [1])
        pair.turn(noise=NOISE, deaf=["one"])
        expected = [("hand", "one", [1]), ("turn", NOISE, ["one"])]
        tape = pair.tape()
        tape[0][2].append(5)
        tape[1][1].clear()
        tape[1][2].append("x")
        tape.append(("hang",))
        self.assertEqual(pair.tape(), expected)


class PlayTest(Checks, unittest.TestCase):
    def talk(self, seed):
        """A pair with deeds of all kinds behind it, and the noises of its training."""
        chance = Random(seed)
        noises = [(chance.randint(-2, 2), chance.randint(-2, 2)) for beat in range(20)]
        pair = Pair(Wire(**SHARES), noises=noises, pause=2)
        for turn in range(150):
            end = chance.choice(ENDS)
            deeds = (lambda: pair.hand(end, [chance.randrange(256) for place in range(chance.randint(0, 20))]),
                     lambda: pair.key(end, chance.choice(([], [], [], [], MARKS, [43], [66, 67], [300]))),
                     lambda: pair.back(end), lambda: pair.turn_to(chance.randint(0, 4)),
                     lambda: pair.retrain(chance.randint(-1, 24)),
                     lambda: pair.turns(chance.randint(0, 3), noise=quiet_noise(chance, pair.rate())),
                     lambda: pair.turn(deaf=chance.sample(ENDS, chance.randint(0, 2))))
            try:
                chance.choice(deeds)()
            except (LineError, Missing):
                pass
        return pair, noises

    def test_new_pair_stands_as_the_first_one(self):
        words = set()
        for seed in range(8):
            pair, noises = self.talk(seed)
            if seed % 4 == 3:
                pair.hang()
            other = Pair(Wire(**SHARES), noises=noises, pause=2)
            tape = pair.tape()
            self.assertIsNone(other.play(tape))
            self.assertEqual(tape, pair.tape())
            self.assertEqual(pair_stands(other), pair_stands(pair))
            words |= {deed[0] for deed in tape}
        self.assertEqual(words, {"hand", "key", "back", "turn", "rate", "hang"})

    def test_in_parts(self):
        pair, noises = self.talk(21)
        for cut in (0, 1, 40, len(pair.tape())):
            other = Pair(Wire(**SHARES), noises=noises, pause=2)
            other.play(pair.tape()[:cut])
            other.play(tape=pair.tape()[cut:])
            self.assertEqual(pair_stands(other), pair_stands(pair))

    def test_stands_in_the_tape_as_its_deeds(self):
        pair = Pair(Wire())
        pair.turn_to(3)
        pair.play([("hand", "one", [1]), ("turn", [], [])])
        pair.play([])
        self.assertEqual(pair.tape(), [("rate", 3), ("hand", "one", [1]), ("turn", [], [])])
        self.assertEqual(len(pair), 1)

    def test_each_deed(self):
        played, done = Pair(Wire(), pause=1), Pair(Wire(), pause=1)
        played.play([("hand", "one", [1]), ("hand", "other", []), ("key", "one", MARKS), ("key", "one", [])])
        done.hand("one", [1])
        done.hand("other", [])
        done.key("one", MARKS)
        done.key("one", [])
        self.assertEqual(pair_stands(played), pair_stands(done))
        self.refused(Away, played.key, "one", [1], name="one")
        played.play([("back", "one"), ("turn", NOISE, ["other"]), ("rate", 1), ("turn", [], []), ("hang",)])
        done.back("one")
        done.turn(noise=NOISE, deaf=["other"])
        done.turn_to(1)
        done.turn()
        done.hang()
        self.assertEqual(pair_stands(played), pair_stands(done))

    def test_all_or_none(self):
        good = [("hand", "one", [1]), ("key", "one", [43]), ("turn", NOISE, ["one"]), ("rate", 2), ("back", "one")]
        bad = (
            (BadByte, {"at": 1}, [("hand", "one", [1, 300])]), (TooLong, {"most": 60}, [("hand", "one", [1] * 61)]),
            (NoEnd, {"name": "x"}, [("hand", "x", [300])]), (NoEnd, {"name": "x"}, [("back", "x")]),
            (BadByte, {"at": 0}, [("key", "other", [-1])]), (NoEnd, {"name": "y"}, [("turn", [], ["one", "y"])]),
            (BadNoise, {}, [("turn", [(0, 0)], [])]), (BadRate, {}, [("rate", 5)]), (BadRate, {}, [("rate", 0)]),
            (Away, {"name": "other"}, [("key", "other", MARKS), *[("key", "other", [])] * 3, ("key", "other", [])]),
            (NotOpen, {}, [("hang",), ("hang",)]), (NotOpen, {}, [("hang",), ("turn", [], [])]),
            (BadRate, {}, [("hang",), ("rate", HUGE)]), (Full, {"most": 40}, [("hand", "other", [])] * 42))
        pair = Pair(Wire(**SHARES))
        pair.hand("other", [9])
        pair.turn()
        stands = pair_stands(pair)
        for kind, values, deeds in bad:
            for tape in (deeds, good + deeds, good + deeds + good):
                self.refused(kind, pair.play, tape, **values)
                self.assertEqual(pair_stands(pair), stands)
        pair.play(good)
        self.assertNotEqual(pair_stands(pair), stands)
        self.assertEqual(pair.tape()[2:], good)

    def test_first_refusal_goes(self):
        self.refused(NoEnd, Pair(Wire()).play, [("back", "x"), ("rate", 9), ("back", "y")], name="x")
        self.refused(BadRate, Pair(Wire()).play, [("rate", 9), ("back", "y")])

    def test_hung_up(self):
        pair = Pair(Wire())
        pair.play([("hang",)])
        stands = pair_stands(pair)
        for tape in ([], [("hang",)], [("turn", [], [])], [("back", "x")]):
            self.refused(NotOpen, pair.play, tape)
        self.assertEqual(pair_stands(pair), stands)

    def test_lists_are_the_callers(self):
        row, noise, deaf = [1, 2], list(NOISE), ["one"]
        tape = [("hand", "one", row), ("key", "other", row), ("turn", noise, deaf)]
        pair, other = Pair(Wire()), Pair(Wire())
        pair.play(tape)
        other.play(tape)
        self.assertEqual(tape, [("hand", "one", [1, 2]), ("key", "other", [1, 2]), ("turn", NOISE, ["one"])])
        row.append(3)
        noise.clear()
        deaf.append("x")
        tape.clear()
        self.assertEqual(pair.tape(), [("hand", "one", [1, 2]), ("key", "other", [1, 2]), ("turn", NOISE, ["one"])])
        self.assertEqual(pair_stands(pair), pair_stands(other))
        pair.turns(20)
        self.assertEqual((pair.told("one"), pair.told("other")), ([[1, 2]], [[1, 2]]))


if __name__ == "__main__":
    unittest.main()
