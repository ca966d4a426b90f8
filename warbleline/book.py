"""Books: words that both ends learn alike, so that rows of bytes are told in fewer bits."""

from warbleline.bits import BYTE_BITS, bits_number, bits_of, check_bits, check_bytes, number_bits
from warbleline.errors import BadCode, BadFrame, TooLong

MOST_WORDS = 300
LONGEST_ROW = 60
BYTE_WORDS = 256
CODE_BITS = 9


def has_room(words):
    """Tell whether one more word may be learnt beside the bytes and these words."""
    return BYTE_WORDS + len(words) < MOST_WORDS


def words_at_beginning(words):
    """Tell, as a new list, the learnt words that are left as a row begins."""
    return list(words) if has_room(words) else []


def longest_code(words, row, at):
    """Tell the number of the longest word with which the row goes on from this place."""
    best = row[at]
    longest = 1
    for place, word in enumerate(words):
        if len(word) > longest and tuple(row[at:at + len(word)]) == word:
            best = BYTE_WORDS + place
            longest = len(word)
    return best


def word_of(words, code):
    """Tell the word of a number that is a word's."""
    return (code,) if code < BYTE_WORDS else words[code - BYTE_WORDS]


def learn(words, ahead, word):
    """Put the word ahead with the first byte of this one to the learnt words, if that is to be learnt."""
    grown = ahead + word[:1]
    # The row's first word has nothing ahead of it.
    if len(ahead) > 0 and has_room(words) and grown not in words:
        words.append(grown)


def numbers_behind_first(bits, many):
    """Tell the numbers, of so many bits each, that stand behind the first bit."""
    if (len(bits) - 1) % many != 0:
        raise BadFrame(len(bits))
    return [bits_number(bits[at:at + many]) for at in range(1, len(bits), many)]


class Book:
    """The words of one way of the wire, at one end."""

    def __init__(self):
        self.words = []

    def __eq__(self, other):
        return isinstance(other, Book) and self.words == other.words

    def __len__(self):
        return len(self.words)

    def __repr__(self):
        return f"Book({len(self.words)} learnt)"

    def shorten(self, row):
        """Tell the numbers of the words that make the row, and learn from them."""
        check_bytes(row)
        if len(row) > LONGEST_ROW:
            raise TooLong(LONGEST_ROW)
        words = words_at_beginning(self.words)
        codes = []
        ahead = ()
        at = 0
        while at < len(row):
            codes.append(longest_code(words, row, at))
            word = word_of(words, codes[-1])
            learn(words, ahead, word)
            ahead = word
            at += len(word)
        self.words = words
        return codes

    def lengthen(self, codes):
        """Tell the row that the words of these numbers make, and learn from them."""
        # The words are a copy until the last number is through, so that a refused list changes nothing.
        words = words_at_beginning(self.words)
        row = []
        ahead = ()
        for at, code in enumerate(codes):
            if code < 0 or code >= BYTE_WORDS + len(words):
                raise BadCode(at)
            word = word_of(words, code)
            if len(row) + len(word) > LONGEST_ROW:
                raise BadCode(at)
            row.extend(word)
            learn(words, ahead, word)
            ahead = word
        self.words = words
        return row

    def pack(self, row):
        """Tell the bits of the row, by numbers where these are fewer bits, else by bytes; learn either way."""
        codes = self.shorten(row)
        if CODE_BITS * len(codes) >= BYTE_BITS * len(row):
            return [0] + bits_of(row)
        bits = [1]
        for code in codes:
            bits.extend(number_bits(code, CODE_BITS))
        return bits

    def unpack(self, bits):
        """Tell the row that is packed in these bits, and learn from it."""
        check_bits(bits)
        if len(bits) == 0:
            raise BadFrame(0)
        if bits[0] == 1:
            return self.lengthen(numbers_behind_first(bits, CODE_BITS))
        row = numbers_behind_first(bits, BYTE_BITS)
        # The other end learnt from this row by shortening it, so this one must do it, too.
        self.shorten(row)
        return row

    def learnt(self):
        """Tell the learnt words, in order."""
        return list(self.words)

    def twin(self):
        """Tell a book that stands as this one and goes on by itself."""
        other = Book()
        other.words = list(self.words)
        return other
