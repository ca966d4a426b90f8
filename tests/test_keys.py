"""Promise 29, and 2 where it is about guards."""

import unittest
from functools import partial
from itertools import product
from random import Random

from helpers import HUGE, Checks
from warbleline.errors import BadByte, BadCount
from warbleline.keys import MARK_KEY, PAUSE, Guard

MARK = 43


class ByWords:
    """A guard that looks back over all beats that there were, as the document has it."""

    def __init__(self, pause):
        self.pause, self.held, self.beats = pause, [], [[]] * pause

    def was_pause(self):
        return all(not beat for beat in self.beats[-self.pause:])

    def beat(self, row):
        behind_pause = self.was_pause()
        self.beats = self.beats + [row]
        if row:
            if (behind_pause or self.held) and set(row) == {MARK} and len(self.held + row) <= 3:
                self.held = self.held + row
                return ([], False)
            through, self.held = self.held + row, []
            return (through, False)
        if not self.was_pause():
            return ([], False)
        held, self.held = self.held, []
        return ([], True) if len(held) == 3 else (held, False)


class GuardTest(Checks, unittest.TestCase):
    def keyed(self, guard, *rows):
        return [guard.beat(list(row)) for row in rows]

    def through(self, guard, *rows):
        """What is let through in all, where no sign is found."""
        told = self.keyed(guard, *rows)
        self.assertEqual([found for row, found in told], [False] * len(told))
        return [row for row, found in told]

    def test_numbers(self):
        self.assertEqual((PAUSE, MARK_KEY), (3, 43))
        self.assertEqual(Guard().held(), 0)

    def test_other_keys_go_through(self):
        self.assertEqual(self.through(Guard(), [65], [66, 67], [], [0, 255], [], [], [], [1]),
                         [[65], [66, 67], [], [0, 255], [], [], [], [1]])

    def test_sign_at_the_beginning(self):
        for marks in ([[43, 43, 43]], [[43], [43], [43]], [[43, 43], [43]], [[43], [43, 43]],
                      [[43], [], [43], [], [], [43]]):
            guard = Guard()
            self.assertEqual(self.keyed(guard, *marks, [], []), [([], False)] * (len(marks) + 2))
            self.assertEqual(guard.held(), 3)
            self.assertEqual(guard.beat([]), ([], True))
            self.assertEqual(guard.held(), 0)
            self.assertEqual(self.keyed(guard, [], [], [], [65]), [([], False)] * 3 + [([65], False)])

    def test_sign_behind_a_pause(self):
        guard = Guard()
        self.assertEqual(self.through(guard, [65], [], [], [], [43, 43, 43], [], []), [[65], [], [], [], [], [], []])
        self.assertEqual(guard.beat(row=[]), ([], True))

    def test_too_short_a_pause_ahead(self):
        guard = Guard()
        self.assertEqual(self.through(guard, [65], [], [], [43, 43, 43], [], [], [], []),
                         [[65], [], [], [43, 43, 43], [], [], [], []])
        self.assertEqual(guard.held(), 0)

    def test_longer_pauses(self):
        guard = Guard()
        told = self.keyed(guard, [65], *[[]] * 9, [43, 43, 43], *[[]] * 9)
        self.assertEqual([found for row, found in told], [False] * 13 + [True] + [False] * 6)
        self.assertEqual([row for row, found in told], [[65]] + [[]] * 19)

    def test_one_or_two_marks(self):
        for marks in ([[43]], [[43, 43]], [[43], [43]], [[43], [], [43]]):
            many = sum(len(row) for row in marks)
            guard = Guard()
            self.assertEqual(self.through(guard, *marks, [], []), [[]] * (len(marks) + 2))
            self.assertEqual(guard.held(), many)
            self.assertEqual(guard.beat([]), ([43] * many, False))
            self.assertEqual(guard.held(), 0)
            self.assertEqual(self.through(guard, [], [], []), [[], [], []])

    def test_four_marks(self):
        for marks, told in (([[43] * 4], [[43] * 4]), ([[43] * 3, [43]], [[], [43] * 4]),
                            ([[43], [43], [43], [43]], [[], [], [], [43] * 4]),
                            ([[43, 43], [43, 43]], [[], [43] * 4]), ([[43] * 3, [], [], [43] * 3], [[], [], [], [43] * 6])):
            guard = Guard()
            self.assertEqual(self.through(guard, *marks), told)
            self.assertEqual(guard.held(), 0)
            # They were let through, so what comes behind them is not behind a pause.
            self.assertEqual(self.through(guard, [43], [43, 43], [], [], [], []), [[43], [43, 43], [], [], [], []])

    def test_other_keys_behind_held_ones(self):
        for many in (1, 2, 3):
            guard = Guard()
            self.assertEqual(self.through(guard, [43] * many, [65, 43]), [[], [43] * many + [65, 43]])
            self.assertEqual(guard.held(), 0)
            self.assertEqual(self.through(guard, [43, 43, 43], [], [], []), [[43, 43, 43], [], [], []])
            guard = Guard()
            self.assertEqual(self.through(guard, [43] * many, [], [], [44]), [[], [], [], [43] * many + [44]])

    def test_marks_with_other_keys(self):
        for row in ([43, 43, 65], [65, 43], [43, 44, 43], [42], [43, 43, 43, 0]):
            guard = Guard()
            self.assertEqual(self.through(guard, row, [], [], []), [row, [], [], []])
            self.assertEqual(guard.held(), 0)

    def test_held(self):
        guard = Guard()
        for row, held in (([], 0), ([43], 1), ([], 1), ([43], 2), ([], 2), ([43], 3), ([], 3), ([], 3), ([65], 0),
                          ([43], 0), ([], 0), ([], 0), ([], 0), ([43, 43], 2), ([43, 43], 0)):
            guard.beat(row)
            self.assertEqual(guard.held(), held)
            self.assertEqual(guard.held(), held)

    def test_sign_twice(self):
        # The pause behind the first sign is one ahead of the next one.
        guard = Guard()
        told = self.keyed(guard, [43] * 3, [], [], [], [43] * 3, [], [], [])
        self.assertEqual([found for row, found in told], [False, False, False, True, False, False, False, True])
        self.assertEqual([row for row, found in told], [[]] * 8)

    def test_pause_that_let_through_is_one_ahead(self):
        guard = Guard()
        self.assertEqual(self.through(guard, [43], [], [], []), [[], [], [], [43]])
        told = self.keyed(guard, [43] * 3, [], [], [])
        self.assertEqual([found for row, found in told], [False, False, False, True])

    def test_pauses(self):
        for pause in (1, 2, 3, 20):
            guard = Guard(pause=pause)
            told = self.keyed(guard, [43] * 3, *[[]] * pause)
            self.assertEqual(told, [([], False)] * pause + [([], True)])
            self.assertEqual(self.through(guard, [65], *[[]] * (pause - 1), [43] * 3, *[[]] * pause),
                             [[65], *[[]] * (pause - 1), [43] * 3, *[[]] * pause])
            told = self.keyed(guard, [43, 43], [43], *[[]] * pause)
            self.assertEqual(told, [([], False)] * (pause + 1) + [([], True)])
            self.assertEqual(self.through(guard, [43], *[[]] * pause), [[]] * pause + [[43]])

    def test_pause_left_out(self):
        told = self.keyed(Guard(), [43] * 3, [], [], [])
        self.assertEqual(told, self.keyed(Guard(pause=3), [43] * 3, [], [], []))
        with self.assertRaises(TypeError):
            Guard(3)

    def test_kinds(self):
        for row in ([], [43], [65]):
            both = Guard().beat(row)
            self.assertIs(type(both), tuple)
            self.assertEqual([type(part) for part in both], [list, bool])

    def test_all_short_ways(self):
        rows = ([], [43], [43, 43], [65])
        for pause in (1, 2, 3):
            for keyed in product(rows, repeat=6):
                guard, words = Guard(pause=pause), ByWords(pause)
                for row in keyed:
                    self.assertEqual(guard.beat(row), words.beat(row))
                    self.assertEqual(guard.held(), len(words.held))

    def test_long_ways(self):
        for pause in (1, 2, 3, 7, 20):
            chance, guard, words, found = Random(pause), Guard(pause=pause), ByWords(pause), 0
            for turn in range(4000):
                row = chance.choice(([], [], [], [43], [43, 43, 43], [43, 43], [66], [43] * 4, [43, 1]))
                for many in range(chance.choice((1, pause)) if not row else 1):
                    told = guard.beat(row)
                    self.assertEqual(told, words.beat(row))
                    found += told[1]
                    self.assertEqual(guard.held(), len(words.held))
                words.beats = words.beats[-30:]
            self.assertGreater(found, 10)


class RefusedTest(Checks, unittest.TestCase):
    def test_pauses(self):
        for pause in (0, 21, -1, HUGE, -HUGE):
            self.refused(BadCount, partial(Guard, pause=pause))
        for pause in range(1, 21):
            Guard(pause=pause)

    def test_bad_byte(self):
        for wrong in (-1, 256, HUGE, -HUGE):
            for row, at in (([wrong], 0), ([43, wrong], 1), ([43, 43, 43, 43, wrong, -7], 4)):
                self.refused(BadByte, Guard().beat, row, at=at)

    def test_changes_nothing(self):
        # As held, and as counted: the refused beat is neither a key nor a pause.
        guard = Guard()
        for row, held in (([43], 1), ([43], 2), ([], 2), ([43], 3), ([], 3), ([], 3)):
            self.refused(BadByte, guard.beat, [300], at=0)
            self.assertEqual(guard.beat(row), ([], False))
            self.assertEqual(guard.held(), held)
            self.refused(BadByte, guard.beat, [43, -1], at=1)
            self.assertEqual(guard.held(), held)
        self.refused(BadByte, guard.beat, [43, 43, 43, 43, 999], at=4)
        self.assertEqual(guard.beat([]), ([], True))
        guard.beat([65])
        for turn in range(3):
            self.refused(BadByte, guard.beat, [300], at=0)
            guard.beat([])
        self.assertEqual(guard.beat([43]), ([], False))
        self.assertEqual(guard.held(), 1)


class ByItselfTest(unittest.TestCase):
    def test_twin_goes_on_as_the_first_one(self):
        chance, guard = Random(4), Guard(pause=2)
        for turn in range(500):
            twin = guard.twin()
            self.assertIs(type(twin), Guard)
            self.assertEqual(twin.held(), guard.held())
            row = chance.choice(([], [], [43], [43, 43], [66]))
            self.assertEqual(guard.beat(row), twin.beat(row))
            for row in ([43], [], [], [], [43]):
                self.assertEqual(guard.twin().beat(row), twin.twin().beat(row))

    def test_each_by_itself(self):
        guard = Guard()
        guard.beat([43, 43])
        twin = guard.twin()
        twin.beat([43])
        self.assertEqual((guard.held(), twin.held()), (2, 3))
        twin = guard.twin()
        guard.beat([])
        guard.beat([])
        self.assertEqual(twin.beat([]), ([], False))
        self.assertEqual(guard.beat([]), ([43, 43], False))
        self.assertEqual(twin.held(), 2)

    def test_lists_are_the_callers(self):
        guard = Guard()
        row = [43, 43]
        guard.beat(row)
        row[:] = [9, 9]
        told = guard.beat([65])[0]
        self.assertEqual(told, [43, 43, 65])
        row = [1, 2]
        told = guard.beat(row)[0]
        told.append(5)
        self.assertEqual(row, [1, 2])
        first, second = guard.beat([])[0], guard.beat([])[0]
        first.append(1)
        self.assertEqual(second, [])
        self.assertEqual(guard.beat([])[0], [])


if __name__ == "__main__":
    unittest.main()
