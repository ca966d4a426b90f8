"""Promise 28: two links, with payloads lost in many ways."""

import unittest
from itertools import product
from random import Random

from warbleline.link import Link


def number_of(payload):
    return 4 * payload[0] + 2 * payload[1] + payload[2]


class Watched:
    """A link, what was handed to it and told by it, and how long each open piece was not told."""

    def __init__(self):
        self.link = Link()
        self.handed, self.told, self.others = [], [], {}

    def hand(self, row):
        self.handed.append(list(row))
        self.link.hand(row)

    def frame(self, test):
        payload = self.link.frame()
        test.assertLessEqual(len(self.link.unanswered()), 4)
        if payload is None:
            test.assertTrue(self.link.idle())
        elif payload[6] == 1:
            # Counted anew for the piece that is told, one more for each other open one.
            open_ones = self.link.unanswered()
            self.others = {number: self.others.get(number, 0) + 1 for number in open_ones}
            self.others[number_of(payload)] = 0
            test.assertLessEqual(max(self.others.values()), 6)
        return payload

    def take(self, payload):
        self.told += self.link.take(payload)
        open_ones = self.link.unanswered()
        self.others = {number: many for number, many in self.others.items() if number in open_ones}


def drawn_row(chance):
    return [chance.choice((1, 2, 3, 200)) for turn in range(chance.choice((0, 1, 4, 5, 9, 10, 30, 60)))]


class TalkTest(unittest.TestCase):
    def both_told(self, one, other):
        self.assertEqual(other.told, one.handed[:len(other.told)])
        self.assertEqual(one.told, other.handed[:len(one.told)])

    def finish(self, one, other):
        """Without loss all is told in a while, and both links are idle."""
        for turn in range(3000):
            for here, there in ((one, other), (other, one)):
                payload = here.frame(self)
                if payload is not None:
                    there.take(payload)
            if one.link.idle() and other.link.idle():
                break
        self.assertEqual(other.told, one.handed)
        self.assertEqual(one.told, other.handed)

    def test_nothing_lost(self):
        chance, one, other = Random(1), Watched(), Watched()
        for turn in range(20):
            for end in (one, other):
                if end.link.waiting() < 40:
                    end.hand(drawn_row(chance))
        self.finish(one, other)

    def test_each_loss_of_the_first_payloads(self):
        # Each way to lose some of the first ten payloads of one end.
        for losses in product((False, True), repeat=10):
            one, other = Watched(), Watched()
            one.hand(list(range(30)))
            for lost in losses:
                payload = one.frame(self)
                if payload is not None and not lost:
                    other.take(payload)
                back = other.frame(self)
                if back is not None:
                    one.take(back)
                self.both_told(one, other)
            self.finish(one, other)

    def test_each_loss_both_ways(self):
        for losses in product((False, True), repeat=10):
            one, other = Watched(), Watched()
            one.hand(list(range(20)))
            other.hand([7, 7, 7, 7, 7])
            for lost, lost_back in zip(losses[::2], losses[1::2]):
                payload = one.frame(self)
                if payload is not None and not lost:
                    other.take(payload)
                back = other.frame(self)
                if back is not None and not lost_back:
                    one.take(back)
                self.both_told(one, other)
            self.finish(one, other)

    def test_lost_by_chance(self):
        for seed in range(60):
            chance, one, other = Random(seed), Watched(), Watched()
            loss = chance.choice((0.05, 0.2, 0.5, 0.9))
            loss_back = chance.choice((0.05, 0.2, 0.5, 0.9))
            for turn in range(250):
                for here, there, rate in ((one, other, loss), (other, one, loss_back)):
                    if here.link.waiting() < 40 and chance.random() < 0.05:
                        here.hand(drawn_row(chance))
                    payload = here.frame(self)
                    if payload is not None and chance.random() >= rate:
                        there.take(payload)
                    self.both_told(one, other)
            self.finish(one, other)

    def test_late_payloads(self):
        # Payloads are on their way for a while, in order, and some are lost.
        for seed in range(60):
            chance, ends, ways = Random(seed), [Watched(), Watched()], [[], []]
            longest = chance.randint(1, 12)
            for turn in range(400):
                end = chance.randrange(2)
                here, way = ends[end], ways[end]
                if here.link.waiting() < 40 and chance.random() < 0.05:
                    here.hand(drawn_row(chance))
                if len(way) < longest:
                    payload = here.frame(self)
                    if payload is not None:
                        way.append(payload)
                if way and chance.random() < 0.6:
                    payload = way.pop(0)
                    if chance.random() < 0.75:
                        ends[1 - end].take(payload)
                self.both_told(*ends)
            for end in (0, 1):
                for payload in ways[end]:
                    ends[1 - end].take(payload)
            self.finish(*ends)

    def test_bursts_of_loss(self):
        for seed in range(20):
            chance, one, other = Random(seed), Watched(), Watched()
            silent = 0
            for turn in range(300):
                silent = silent - 1 if silent > 0 else chance.choice((0, 0, 0, 0, 12))
                for here, there in ((one, other), (other, one)):
                    if here.link.waiting() < 40 and chance.random() < 0.08:
                        here.hand(drawn_row(chance))
                    payload = here.frame(self)
                    if payload is not None and silent == 0:
                        there.take(payload)
                self.both_told(one, other)
            self.finish(one, other)

    def test_open_piece_is_told_again_behind_six_others(self):
        # Six is reached: three elder ones are told again, then answered, and three new ones go ahead.
        link = Link()
        for turn in range(8):
            link.hand([])
        told = [number_of(link.frame()) for turn in range(7)]
        link.take([0, 0, 0, 0, 1, 1, 0, 0])
        told += [number_of(link.frame()) for turn in range(4)]
        self.assertEqual(told, [0, 1, 2, 3, 0, 1, 2, 4, 5, 6, 3])

    def test_books_fill_and_begin_anew(self):
        chance, one, other = Random(9), Watched(), Watched()
        for turn in range(3000):
            for here, there in ((one, other), (other, one)):
                if here.link.waiting() < 10:
                    here.hand([chance.choice((1, 2, 3, 4, 5, 6)) for place in range(chance.randint(0, 30))])
                payload = here.frame(self)
                if payload is not None and chance.random() < 0.8:
                    there.take(payload)
        self.finish(one, other)
        self.assertGreater(len(one.handed), 200)


if __name__ == "__main__":
    unittest.main()
