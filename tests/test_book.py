"""Promises 10 and 11, books as values, and 2 where it is about them."""

import unittest
from random import Random

from helpers import FILLING, HUGE, Checks, book_of_rows, full_book
from warbleline.book import LONGEST_ROW, MOST_WORDS, Book
from warbleline.errors import BadByte, BadCode, TooLong

WRONG_BYTES = (256, -1, HUGE, -HUGE)


def bytes_in(text):
    return [ord(sign) for sign in text]


def words_in(texts):
    return [tuple(bytes_in(text)) for text in texts.split()]


def book_of(*texts):
    """A book that shortened these texts."""
    return book_of_rows(*[bytes_in(text) for text in texts])


def by_words(learnt, row):
    """The numbers of a row and the words learnt behind it, with a table of all words, as the document has it."""
    words = [(byte,) for byte in range(256)] + ([] if len(learnt) == 44 else list(learnt))
    rest, ahead, codes = tuple(row), None, []
    while rest:
        word = max((word for word in words if rest[:len(word)] == word), key=len)
        codes.append(words.index(word))
        if ahead is not None and ahead + word[:1] not in words and len(words) < 300:
            words.append(ahead + word[:1])
        ahead, rest = word, rest[len(word):]
    return codes, words[256:]


def drawn_rows(seed, many):
    """Rows of all lengths over few and many bytes, so that long words, full books and new beginnings all come."""
    chance = Random(seed)
    rows = []
    for turn in range(many):
        bytes_used = chance.choice(([7], [0, 255], [1, 2, 3], list(range(97, 105)), list(range(256))))
        rows.append([chance.choice(bytes_used) for place in range(chance.choice((0, 1, 2, 5, 20, 59, 60)))])
    return rows


class ShortenTest(Checks, unittest.TestCase):
    def test_values(self):
        self.assertEqual((MOST_WORDS, LONGEST_ROW), (300, 60))

    def shortens(self, book, text, codes, learnt):
        row = bytes_in(text)
        self.assertEqual(book.shorten(row), codes)
        self.assertEqual(row, bytes_in(text))
        self.assertEqual(book.learnt(), words_in(learnt))

    def test_by_hand(self):
        self.shortens(Book(), "", [], "")
        self.shortens(Book(), "a", [97], "")
        self.shortens(Book(), "ab", [97, 98], "ab")
        self.shortens(Book(), "abc", [97, 98, 99], "ab bc")
        self.shortens(Book(), "aaa", [97, 97, 97], "aa")
        self.shortens(Book(), "aaaa", [97, 97, 256], "aa")
        self.shortens(Book(), "aaaaaa", [97, 97, 256, 256], "aa aaa")
        self.shortens(Book(), "abababa", [97, 98, 256, 256, 97], "ab ba aba")
        self.assertEqual(Book().shorten([0, 255, 0, 255]), [0, 255, 256])

    def test_rows_behind_one_another(self):
        book = Book()
        self.shortens(book, "abab", [97, 98, 256], "ab ba")
        self.shortens(book, "abab", [256, 256], "ab ba aba")
        self.shortens(book, "abab", [258, 98], "ab ba aba abab")
        self.shortens(book, "abab", [259], "ab ba aba abab")
        self.shortens(book, "ababab", [259, 256], "ab ba aba abab ababa")
        self.shortens(book, "bab", [257, 98], "ab ba aba abab ababa bab")
        self.shortens(book, "", [], "ab ba aba abab ababa bab")
        # Nothing is learnt over the bound of two rows.
        self.shortens(book, "x", [120], "ab ba aba abab ababa bab")
        self.shortens(book, "y", [121], "ab ba aba abab ababa bab")

    def test_longest_word_is_taken(self):
        book = book_of("abab", "abab", "abab")
        self.assertEqual(book.learnt(), words_in("ab ba aba abab"))
        for text, codes in (("a", [97]), ("ab", [256]), ("aba", [258]), ("abab", [259]), ("ababa", [259, 97]),
                            ("abax", [258, 120]), ("abx", [256, 120])):
            self.assertEqual(book.twin().shorten(bytes_in(text)), codes)

    def test_a_word_is_no_word_ahead_of_its_being_learnt(self):
        # The second number of the row is told ahead of learning "aa".
        self.shortens(Book(), "aa", [97, 97], "aa")

    def test_a_word_that_is_there_is_not_learnt_again(self):
        book = Book()
        self.shortens(book, "aaa", [97, 97, 97], "aa")
        self.shortens(book, "abab", [97, 98, 257], "aa ab ba")
        self.shortens(book, "ba", [258], "aa ab ba")
        self.assertEqual(len(set(book.learnt())), len(book))

    def test_against_the_words(self):
        learnt = []
        book = Book()
        for row in drawn_rows(41, 400):
            codes, learnt = by_words(learnt, row)
            self.assertEqual(book.shorten(row), codes)
            self.assertEqual(book.learnt(), learnt)

    def test_full_within_a_row(self):
        book = Book()
        row = list(range(60))
        self.assertEqual(book.shorten(row), row)
        self.assertEqual(book.learnt(), [(byte, byte + 1) for byte in range(44)])

    def test_just_full_and_a_row_behind_it(self):
        for behind, learnt in (([], []), ([5], []), ([100, 101], [(100, 101)]), ([5, 6, 7], [(5, 6), (6, 7)])):
            book = full_book()
            self.assertEqual(book.learnt(), [(byte, byte + 1) for byte in range(100, 144)])
            # The words are gone ahead of the row, so none of them is told.
            self.assertEqual(book.shorten(behind), behind)
            self.assertEqual(book.learnt(), learnt)

    def test_one_less_than_full_and_a_row_behind_it(self):
        book = Book()
        book.shorten(FILLING[:-1])
        self.assertEqual(len(book), 43)
        self.assertEqual(book.shorten([]), [])
        self.assertEqual(len(book), 43)
        self.assertEqual(book.shorten([143, 144]), [143, 144])
        self.assertEqual(book.learnt(), [(byte, byte + 1) for byte in range(100, 144)])
        self.assertEqual(book.shorten([100, 101]), [100, 101])
        self.assertEqual(book.learnt(), [(100, 101)])

    def test_the_last_word_has_the_last_number(self):
        book = Book()
        book.shorten(FILLING[:-1])
        self.assertEqual(book.shorten([143, 144, 143, 144]), [143, 144, 299])

    def test_bytes_from_first_to_last(self):
        for byte in (0, 1, 254, 255):
            self.assertEqual(Book().shorten([byte]), [byte])

    def test_sixty_bytes_and_one_more(self):
        for row in ([9] * 60, list(range(60))):
            self.assertEqual(Book().shorten(row), by_words([], row)[0])
        for length in (61, 62, 300, 4000):
            self.refused(TooLong, Book().shorten, [9] * length, most=60)

    def test_bad_byte(self):
        for wrong in WRONG_BYTES:
            self.refused(BadByte, Book().shorten, [wrong], at=0)
            self.refused(BadByte, Book().shorten, [0, 255, wrong], at=2)
            self.refused(BadByte, Book().shorten, [0, wrong, 300, -7], at=1)

    def test_bad_byte_ahead_of_too_long(self):
        for wrong in WRONG_BYTES:
            self.refused(BadByte, Book().shorten, [1] * 60 + [wrong], at=60)
            self.refused(BadByte, Book().shorten, [1] * 3999 + [wrong], at=3999)
            self.refused(BadByte, Book().shorten, [wrong] + [1] * 60, at=0)

    def test_refused_rows_change_nothing(self):
        for book in (Book(), book_of("abab"), full_book()):
            before = book.learnt()
            for call in (book.shorten, book.pack):
                self.refused(BadByte, call, [1, 2, 3, 256], at=3)
                self.refused(TooLong, call, [1, 2] * 31, most=60)
                self.assertEqual(book.learnt(), before)
            codes, learnt = by_words(before, [97, 98, 97])
            self.assertEqual(book.shorten([97, 98, 97]), codes)
            self.assertEqual(book.learnt(), learnt)


class LengthenTest(Checks, unittest.TestCase):
    def test_by_hand(self):
        for codes, text, learnt in (([], "", ""), ([97], "a", ""), ([97, 97, 256], "aaaa", "aa"),
                                    ([97, 98, 256, 256, 97], "abababa", "ab ba aba")):
            book = Book()
            handed = list(codes)
            self.assertEqual(book.lengthen(handed), bytes_in(text))
            self.assertEqual(handed, codes)
            self.assertEqual(book.learnt(), words_in(learnt))

    def test_gives_the_row_back(self):
        here, there = Book(), Book()
        beginnings = 0
        for row in drawn_rows(42, 500):
            beginnings += len(here) == 44
            self.assertEqual(there.lengthen(here.shorten(row)), row)
            self.assertEqual(here, there)
            self.assertEqual(here.learnt(), there.learnt())
        self.assertGreater(beginnings, 10)

    def test_just_full_and_a_row_behind_it(self):
        for behind in ([], [5], [100, 101, 100, 101]):
            here, there = full_book(), Book()
            self.assertEqual(there.lengthen(Book().shorten(FILLING)), FILLING)
            self.assertEqual(here, there)
            self.assertEqual(there.lengthen(here.shorten(behind)), behind)
            self.assertEqual(here, there)
            self.assertEqual(there.learnt(), by_words([], behind)[1])

    def test_numbers_that_shorten_would_not_tell(self):
        # The words are learnt from the numbers, whether they are the longest ones or not.
        book = book_of("abab")
        self.assertEqual(book.lengthen([97, 98, 97, 98]), bytes_in("abab"))
        self.assertEqual(book.learnt(), words_in("ab ba"))
        self.assertEqual(book.lengthen([97, 256, 97]), bytes_in("aaba"))
        self.assertEqual(book.learnt(), words_in("ab ba aa aba"))

    def test_no_words_number(self):
        for wrong in (256, 257, 299, 300, 511, 1000, -1, -2, -256, -300, HUGE, -HUGE):
            self.refused(BadCode, Book().lengthen, [wrong], at=0)
            self.refused(BadCode, Book().lengthen, [97, wrong], at=1)
            self.refused(BadCode, Book().lengthen, [97, wrong, -5, 700], at=1)

    def test_first_and_last_word(self):
        book = book_of("abc")
        self.assertEqual(book.twin().lengthen([256]), bytes_in("ab"))
        self.assertEqual(book.twin().lengthen([257]), bytes_in("bc"))
        self.refused(BadCode, book.lengthen, [258], at=0)
        self.assertEqual(book.lengthen([0, 255]), [0, 255])

    def test_the_word_just_being_learnt(self):
        # Behind 97, 256 would be "aa", whose learning would come only behind that number.
        self.refused(BadCode, Book().lengthen, [97, 256], at=1)
        self.refused(BadCode, Book().lengthen, [97, 97, 257], at=2)
        self.refused(BadCode, Book().lengthen, [97, 98, 256, 258], at=3)
        self.assertEqual(Book().lengthen([97, 98, 256, 257]), bytes_in("ababba"))

    def test_words_that_are_forgotten_as_the_row_begins(self):
        book = full_book()
        self.refused(BadCode, book.lengthen, [256], at=0)
        self.refused(BadCode, book.lengthen, [299], at=0)
        self.assertEqual(len(book), 44)
        self.assertEqual(book.lengthen([100, 101, 256]), [100, 101, 100, 101])
        self.assertEqual(book.learnt(), [(100, 101), (101, 100)])

    def test_words_of_a_book_that_fills_within_the_row(self):
        self.assertEqual(Book().lengthen(FILLING + [299]), FILLING + [143, 144])
        self.refused(BadCode, Book().lengthen, FILLING + [300], at=45)
        self.refused(BadCode, Book().lengthen, FILLING[:-1] + [299], at=44)

    def test_more_than_sixty_bytes(self):
        self.assertEqual(Book().lengthen([97] * 60), [97] * 60)
        self.refused(BadCode, Book().lengthen, [97] * 61, at=60)
        self.refused(BadCode, Book().lengthen, [97] * 4000, at=60)
        # The words are of two bytes here.
        self.assertEqual(Book().lengthen([97, 97] + [256] * 29), [97] * 60)
        self.refused(BadCode, Book().lengthen, [97, 97] + [256] * 30, at=31)
        self.refused(BadCode, Book().lengthen, [97, 97, 97] + [256] * 29, at=31)
        self.assertEqual(Book().lengthen([97, 97, 97] + [256] * 28 + [5]), [97] * 59 + [5])

    def test_the_first_of_several_bad_things(self):
        self.refused(BadCode, Book().lengthen, [97] * 61 + [-1], at=60)
        self.refused(BadCode, Book().lengthen, [97] * 30 + [300] + [97] * 61, at=30)
        self.refused(BadCode, Book().lengthen, [97] * 60 + [300], at=60)

    def test_book_is_as_it_was_behind_a_refusal(self):
        for book in (Book(), book_of("abab", "cdcd"), full_book()):
            before = book.learnt()
            for codes in ([1, 2, 3, -1], [1, 2, 3, 300], [HUGE], [8] * 61, list(range(61))):
                self.refused(BadCode, book.lengthen, codes)
                self.assertEqual(book.learnt(), before)
            self.assertEqual(book.lengthen([1, 2, 1]), [1, 2, 1])
            self.assertEqual(book.learnt(), ([] if len(before) == 44 else before) + [(1, 2), (2, 1)])

    def test_all_drawn_numbers(self):
        chance = Random(43)
        for run in range(300):
            book = Book()
            for row in drawn_rows(chance.random(), 3):
                book.shorten(row)
            before = book.learnt()
            codes = [chance.choice((97, 98, 99, 256 + chance.randrange(50))) for place in range(30)]
            self.lengthens_by_words(book, before, codes)

    def lengthens_by_words(self, book, before, codes):
        words = [(byte,) for byte in range(256)] + ([] if len(before) == 44 else before)
        row, ahead = [], None
        for at, code in enumerate(codes):
            if code not in range(len(words)) or len(row) + len(words[code]) > 60:
                self.refused(BadCode, book.lengthen, codes, at=at)
                self.assertEqual(book.learnt(), before)
                return
            word = words[code]
            if ahead is not None and ahead + word[:1] not in words and len(words) < 300:
                words.append(ahead + word[:1])
            row, ahead = row + list(word), word
        self.assertEqual(book.lengthen(codes), row)
        self.assertEqual(book.learnt(), words[256:])


class ValueTest(Checks, unittest.TestCase):
    def test_learnt(self):
        book = book_of("abc")
        self.assertEqual(Book().learnt(), [])
        self.assertEqual(book.learnt(), [(97, 98), (98, 99)])
        self.assertIs(type(book.learnt()), list)
        for word in book.learnt():
            self.assertIs(type(word), tuple)
            self.assertEqual({type(byte) for byte in word}, {int})

    def test_length_and_repr(self):
        for book, many in ((Book(), 0), (book_of("ab"), 1), (book_of("abcd"), 3), (full_book(), 44)):
            self.assertEqual(len(book), many)
            self.assertEqual(repr(book), f"Book({many} learnt)")
        self.assertEqual(repr(book_of("abcd")), "Book(3 learnt)")

    def alike(self, one, other, expected):
        self.assertIs(one == other, expected)
        self.assertIs(other == one, expected)
        self.assertIs(one != other, not expected)
        self.assertIs(other != one, not expected)

    def test_equal_by_the_learnt_words(self):
        book = book_of("abc")
        self.alike(book, book, True)
        self.alike(Book(), Book(), True)
        self.alike(book, book_of("abc"), True)
        # The same words learnt by other rows.
        self.alike(book, book_of("ab", "bc"), True)
        self.alike(book, book_of("", "ab", "x", "bc"), True)

    def test_unequal(self):
        self.alike(book_of("abc"), Book(), False)
        self.alike(book_of("abc"), book_of("ab"), False)
        self.alike(book_of("abc"), book_of("abd"), False)
        # The same words in another order.
        self.alike(book_of("ab", "bc"), book_of("bc", "ab"), False)

    def test_nothing_else_is_equal_to_one(self):
        for book in (Book(), book_of("abc")):
            for thing in (None, 0, 2, [], (), {}, "", "Book(0 learnt)", book.learnt(), len(book), repr(book), Book):
                self.alike(book, thing, False)

    def test_twin(self):
        book = book_of("abab")
        twin = book.twin()
        self.assertIs(type(twin), Book)
        self.alike(book, twin, True)
        self.assertEqual(twin.shorten(bytes_in("xyx")), [120, 121, 120])
        self.assertEqual(book.learnt(), words_in("ab ba"))
        self.assertEqual(twin.learnt(), words_in("ab ba xy yx"))
        self.alike(book, twin, False)
        again = book.twin()
        book.shorten(bytes_in("cd"))
        self.assertEqual(again.learnt(), words_in("ab ba"))
        self.assertEqual(again.shorten(bytes_in("cd")), [99, 100])
        self.alike(book, again, True)

    def test_twin_of_a_full_book(self):
        book = full_book()
        twin = book.twin()
        twin.shorten([])
        self.assertEqual((len(book), len(twin)), (44, 0))

    def test_two_books(self):
        one, other = Book(), Book()
        one.shorten(bytes_in("abab"))
        self.assertEqual(len(other), 0)


class ByItselfTest(Checks, unittest.TestCase):
    def test_lists_that_were_told_and_handed_in_are_the_callers(self):
        book = Book()
        row = bytes_in("abab")
        codes = book.shorten(row)
        row[:] = [1, 2, 3]
        codes[:] = [7]
        self.assertEqual(book.learnt(), words_in("ab ba"))
        learnt = book.learnt()
        learnt[:] = [(5, 5)]
        self.assertEqual(book.learnt(), words_in("ab ba"))
        codes = [256, 120]
        row = book.lengthen(codes)
        row.append(9)
        codes[:] = []
        self.assertEqual(book.learnt(), words_in("ab ba abx"))
        self.assertEqual(book.shorten(bytes_in("abx")), [258])

    def test_new_lists(self):
        self.tells(lambda row: Book().shorten(row), [1, 2, 1, 2], [1, 2, 256])
        self.tells(lambda codes: Book().lengthen(codes), [1, 2, 256], [1, 2, 1, 2])
        book = Book()
        for call in (book.shorten, book.lengthen):
            self.assertIsNot(call([]), call([]))
        self.assertIsNot(book.learnt(), book.learnt())

    def test_asking_does_nothing(self):
        book = full_book()
        for turn in range(2):
            self.assertEqual((len(book), repr(book), len(book.learnt())), (44, "Book(44 learnt)", 44))
            self.assertEqual(book, full_book())
            self.assertEqual(book.twin(), book)

    def test_by_name(self):
        self.assertEqual(Book().lengthen(codes=Book().shorten(row=[4, 4, 4])), [4, 4, 4])


if __name__ == "__main__":
    unittest.main()
