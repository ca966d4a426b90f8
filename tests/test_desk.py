"""Promise 34, and 2 where it is about desks."""

import unittest

from helpers import pair_stands
from warbleline.desk import Desk
from warbleline.pair import Pair
from warbleline.wire import Wire

# The signs of lines, by their bytes: from the blank to ~, without the one for hundredths.
ALL_SIGNS = "".join(chr(byte) for byte in range(32, 127) if byte != 37)


class DeskCase(unittest.TestCase):
    def setUp(self):
        self.pair = Pair(Wire(forth=(1, -2), near=(3,)))
        self.desk = Desk(self.pair)

    def says(self, line, answer):
        told = self.desk.say(line)
        self.assertEqual(told, answer, line)
        self.assertIs(type(told), str)

    def keeps(self, line, answer):
        """The line is answered so, and changes nothing."""
        stands = pair_stands(self.pair)
        self.says(line, answer)
        self.assertEqual(pair_stands(self.pair), stands)


class LinesTest(DeskCase):
    def test_that_very_pair(self):
        self.assertIs(self.desk.pair(), self.pair)
        self.assertIs(Desk(pair=self.pair).pair(), self.pair)
        self.pair.turn_to(2)
        self.says("rate", "2")
        self.says("rate 3", "3")
        self.assertEqual(self.pair.rate(), 3)
        self.assertEqual(self.desk.say(line="rate"), "3")

    def test_hand(self):
        self.says("hand one hi", "done")
        self.says("hand other go", "done")
        self.assertEqual(self.pair.tape(), [("hand", "one", [104, 105]), ("hand", "other", [103, 111])])

    def test_texts(self):
        for text in ("", " ", "  ", " a", "a ", "a  b", "one", "one two three", "hand one hi", "+++", "#\"'\\~"):
            self.says("hand one " + text, "done")
            self.assertEqual(self.pair.tape()[-1], ("hand", "one", [ord(sign) for sign in text]))
        self.says("turns 99", "0 11")
        self.says("told other", "11")
        self.says("last other", "#\"'\\~")

    def test_all_signs(self):
        for at in range(0, len(ALL_SIGNS), 60):
            text = ALL_SIGNS[at:at + 60]
            self.says("hand other " + text, "done")
            self.says("turns 60", "1 0")
            self.says("last one", text)
        self.assertEqual(len(ALL_SIGNS), 94)

    def test_key(self):
        self.says("key one hello", "done")
        for turn in range(3):
            self.says("key one ", "done")
        self.says("key one +++", "done")
        self.says("key one ", "done")
        self.says("key one ", "done")
        self.says("key one ", "out")
        self.says("key one ", "no Away")
        self.says("key one a", "no Away")
        self.says("key other a", "done")
        self.says("back one", "done")
        self.says("key one b c", "done")
        self.says("back other", "done")
        self.says("turns 50", "1 2")
        self.says("last other", "b c")
        self.says("last one", "a")

    def test_turn(self):
        self.says("turn", "0 0")
        self.says("hand one ", "done")
        self.says("turn", "0 1")
        self.says("hand other ", "done")
        self.says("turn", "1 0")
        self.assertEqual(len(self.pair), 3)
        self.assertEqual(self.pair.tape()[-1], ("turn", [], []))

    def test_deaf(self):
        self.says("hand one ", "done")
        self.says("hand other ", "done")
        self.says("deaf other", "1 0")
        self.assertEqual(self.pair.tape()[-1], ("turn", [], ["other"]))
        self.says("deaf one", "0 1")
        self.assertEqual(self.pair.tape()[-1], ("turn", [], ["one"]))
        self.says("turns 9", "0 0")
        self.says("hand other ", "done")
        self.says("deaf one", "0 0")
        self.says("turns 9", "1 0")

    def test_turns(self):
        self.says("turns 0", "0 0")
        self.assertEqual(len(self.pair), 0)
        for text in ("a", "b", "c"):
            self.says("hand one " + text, "done")
        self.says("hand other z", "done")
        self.says("turns 20", "1 3")
        self.assertEqual(len(self.pair), 20)
        self.says("turns 99", "0 0")
        self.says("turns 1", "0 0")
        self.assertEqual(len(self.pair), 120)

    def test_rate(self):
        self.says("rate", "4")
        for number in ("1", "2", "3", "4"):
            self.says("rate " + number, number)
            self.says("rate", number)
        for number in ("0", "5", "10", "99"):
            self.keeps("rate " + number, "no BadRate")

    def test_told_last_untold(self):
        for end in ("one", "other"):
            self.keeps("told " + end, "0")
            self.keeps("last " + end, "none")
            self.keeps("untold " + end, "0")
        self.says("hand one a", "done")
        self.says("hand one bc", "done")
        self.keeps("untold one", "2")
        self.keeps("untold other", "0")
        self.says("turns 20", "0 2")
        self.keeps("untold one", "0")
        self.keeps("told other", "2")
        self.keeps("told one", "0")
        self.keeps("last other", "bc")
        self.keeps("last one", "none")

    def test_many_told(self):
        for turn in range(12):
            self.says("hand one x", "done")
        self.says("turns 99", "0 12")
        self.says("told other", "12")

    def test_last_is_empty(self):
        self.says("hand one a", "done")
        self.says("hand one ", "done")
        self.says("turns 20", "0 2")
        self.says("last other", "")

    def test_last_of_other_signs(self):
        for byte in (0, 9, 10, 31, 37, 127, 128, 255):
            self.pair.hand("one", [65, byte, 66])
            self.says("turns 20", "0 1")
            self.says("last other", "none")
        for byte in (32, 36, 38, 126):
            self.pair.hand("one", [byte])
            self.says("turns 20", "0 1")
            self.says("last other", chr(byte))

    def test_quiet(self):
        self.says("quiet", "yes")
        self.says("hand other x", "done")
        self.says("quiet", "no")
        self.says("turns 9", "1 0")
        self.says("quiet", "yes")

    def test_hang(self):
        self.says("hand one a", "done")
        self.says("hand one b", "done")
        self.says("hand other c", "done")
        self.says("hang", "2 1")
        for line in ("hang", "hand one x", "hand third x", "key one x", "key third ", "back one", "back third", "turn",
                     "turns 0", "turns 99", "deaf one", "deaf third", "rate 1"):
            self.keeps(line, "no NotOpen")
        self.keeps("rate 9", "no BadRate")
        for line, answer in (("rate", "4"), ("told one", "0"), ("last one", "none"), ("untold one", "2"),
                             ("untold other", "1"), ("quiet", "no"), ("told third", "no NoEnd"), ("turn x", "what")):
            self.keeps(line, answer)

    def test_hang_of_all_told(self):
        self.says("hand one a", "done")
        self.says("turns 9", "0 1")
        self.says("hang", "0 0")


class RefusedTest(DeskCase):
    def test_ends_that_there_are_not(self):
        for end in ("third", "One", "ONE", "two", "~", "1", "others", "on"):
            for line in ("hand {} x", "hand {} ", "key {} x", "key {} ", "back {}", "deaf {}", "told {}", "last {}",
                         "untold {}"):
                self.keeps(line.format(end), "no NoEnd")

    def test_too_long(self):
        self.keeps("hand one " + "x" * 61, "no TooLong")
        self.keeps("key one " + "x" * 61, "no TooLong")
        self.keeps("hand one " + "x" * 391, "no TooLong")
        self.says("hand one " + "x" * 60, "done")

    def test_full(self):
        for turn in range(40):
            self.says("hand one ", "done")
        self.keeps("hand one ", "no Full")
        self.keeps("key one x", "no Full")
        self.says("key one +", "done")
        self.says("hand other x", "done")

    def test_bad_rate(self):
        self.keeps("rate 0", "no BadRate")
        self.keeps("rate 77", "no BadRate")


class NoLineTest(DeskCase):
    def test_no_form(self):
        lines = (
            "", " ", "  ", "what", "x", "Turn", "TURN", "turn ", " turn", "turn 1", "turn one", "turns", "turns ",
            "turns one", "turns 1 ", "turns 1 2", "turns  1", " turns 1", "rate ", "rate one", "rate 1 2", "rate  1",
            "rate 1 ", "hand", "hand ", "hand one", "hand  ", "hand  x", "hand  one x", " hand one x", "key", "key ",
            "key one", "key  x", "back", "back ", "back one ", "back  one", "back one two", "deaf", "deaf ",
            "deaf one ", "deaf one other", "deaf  one", "told", "told ", "told one ", "told one one", "told  one",
            "last", "last ", "last one ", "last one two", "untold", "untold ", "untold one ", "untold one two",
            "quiet ", "quiet one", "hang ", "hang up", "tape", "play", "retrain 0", "hurt one", "twin", "handone x",
            "hand-one x", "turns1", "rate4", "done", "none", "no", "?", "~")
        for line in lines:
            self.keeps(line, "what")

    def test_numbers_not_written_plainly(self):
        for number in ("00", "01", "09", "007", "100", "999", "1000", "-1", "-0", "+1", "1.0", "1e1", "0x1", "one",
                       "1_0", "1,0", "9" * 20, "a", "1a", "'1'"):
            self.keeps("turns " + number, "what")
            self.keeps("rate " + number, "what")

    def test_each_number(self):
        for number in range(100):
            self.assertEqual(self.desk.say(f"rate {number}"), str(number) if 1 <= number <= 4 else "no BadRate")


class WholeTalkTest(DeskCase):
    def test_two_desks_of_one_pair(self):
        other = Desk(self.pair)
        self.says("hand one x", "done")
        self.assertEqual(other.say("untold one"), "1")
        self.assertEqual(other.say("turns 9"), "0 1")
        self.says("last other", "x")

    def test_asked_again(self):
        self.says("hand one x", "done")
        self.says("turns 9", "0 1")
        for turn in range(3):
            for line, answer in (("rate", "4"), ("told other", "1"), ("last other", "x"), ("untold one", "0"),
                                 ("quiet", "yes"), ("nothing", "what"), ("told x", "no NoEnd")):
                self.keeps(line, answer)


if __name__ == "__main__":
    unittest.main()
