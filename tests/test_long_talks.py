"""Promises 10, 12, 24 and 32 together: long talks in which the books fill and begin anew, both ways at once."""

import unittest
from random import Random

from helpers import FILLING, quiet_noise
from warbleline.book import Book
from warbleline.pair import ENDS, Pair
from warbleline.wire import Wire

SHARES = {"forth": (1, -2, 0, 3), "back": (-1, 2), "near": (3, 0, -1), "far": (2, 1, -3, 1)}


def times_begun_anew(rows):
    """How often a book that packs these rows begins anew."""
    book, many = Book(), 0
    for row in rows:
        before = len(book)
        book.pack(row)
        many += len(book) < before
    return many


class LongTalkTest(unittest.TestCase):
    def talk(self, seed, rows, deaf, rates):
        """Hand over all rows of both ends as there is room, with noise; all are told, each once, in order."""
        chance, pair = Random(seed), Pair(Wire(**SHARES))
        left = {end: list(rows[end]) for end in ENDS}
        told = {end: [] for end in ENDS}
        for turn in range(6000):
            for end in ENDS:
                if left[end] and pair.untold(end) < 3:
                    pair.hand(end, left[end].pop(0))
            if rates and chance.random() < 0.1:
                pair.turn_to(chance.randint(2, 4))
            here = pair.turn(noise=quiet_noise(chance, pair.rate()),
                             deaf=[end for end in ENDS if chance.random() < deaf])
            for end, part in zip(ENDS, here):
                told[end] += part
            if pair.quiet() and not left["one"] and not left["other"]:
                break
        self.assertEqual(told, {"one": rows["other"], "other": rows["one"]})
        self.assertEqual(pair.quiet(), True)
        self.assertEqual((pair.untold("one"), pair.untold("other")), (0, 0))

    def drawn_rows(self, seed, many):
        """Rows of few unlike bytes for each end, so that words are learnt and used."""
        chance = Random(seed)
        return {end: [[chance.choice((65, 66, 67, 68)) for place in range(chance.randint(0, 40))]
                      for row in range(many)] for end in ENDS}

    def test_books_begin_anew(self):
        rows = self.drawn_rows(1, 60)
        for end in ENDS:
            self.assertGreater(times_begun_anew(rows[end]), 3)
        self.talk(2, rows, 0, False)

    def test_books_begin_anew_with_deaf_ends_and_other_rates(self):
        rows = self.drawn_rows(3, 45)
        for end in ENDS:
            self.assertGreater(times_begun_anew(rows[end]), 3)
        self.talk(4, rows, 0.15, True)

    def test_just_full_books(self):
        # Rows that just fill a book, and rows of no bytes, at which a full one begins anew, too.
        rows = {"one": [FILLING, [], FILLING, FILLING, [], [100, 101, 102], FILLING[:44], [144], [100, 101] * 20],
                "other": [[], FILLING[1:], [7, 7], [], FILLING, [100, 101] * 9, [], [100, 101] * 9]}
        self.talk(5, rows, 0.1, True)

    def test_numbers_go_round_many_times(self):
        chance = Random(6)
        rows = {end: [[chance.randrange(256) for place in range(60)] for row in range(12)] for end in ENDS}
        self.talk(7, rows, 0.1, True)


if __name__ == "__main__":
    unittest.main()
