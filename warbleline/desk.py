"""The desk: answers lines about a pair."""

from warbleline.errors import LineError, Missing

# All that lines may have: the signs from the blank on, in order, but for the one of hundredths behind the fifth.
SIGNS = " !\"#$&'()*+,-./0123456789:;<=>?@ABCDEFGHIJKLMNOPQRSTUVWXYZ[\\]^_`abcdefghijklmnopqrstuvwxyz{|}~"
NO_LINE = "what"
NUMBERS = 100


def bytes_of_text(text):
    """Tell the bytes of the signs of a text."""
    return [ord(sign) for sign in text]


def text_of_row(row):
    """Tell the text of a row of bytes, None where a byte is no sign's."""
    signs = {ord(sign): sign for sign in SIGNS}
    if not all([byte in signs for byte in row]):
        return None
    return "".join([signs[byte] for byte in row])


def plain_number(word):
    """Tell the number from 0 to 99 that a word writes plainly, None where it writes none."""
    for number in range(NUMBERS):
        if word == str(number):
            return number
    return None


def is_word(text):
    """Tell whether a text is one word."""
    return text != "" and " " not in text


def both_counts(both):
    """Tell how many things are in each of two lists."""
    return f"{len(both[0])} {len(both[1])}"


def say_turn(pair):
    """Pass a turn."""
    return both_counts(pair.turn())


def say_rate(pair):
    """Tell the rate."""
    return str(pair.rate())


def say_quiet(pair):
    """Tell whether the pair is quiet."""
    return "yes" if pair.quiet() else "no"


def say_hang(pair):
    """Hang up."""
    return both_counts(pair.hang())


def say_back(pair, end):
    """Bring an end back."""
    pair.back(end)
    return "done"


def say_deaf(pair, end):
    """Pass a turn in which an end is deaf."""
    return both_counts(pair.turn(deaf=[end]))


def say_told(pair, end):
    """Tell how many rows were told at an end."""
    return str(len(pair.told(end)))


def say_last(pair, end):
    """Tell the text of the last row told at an end."""
    rows = pair.told(end)
    text = text_of_row(rows[-1]) if len(rows) > 0 else None
    return "none" if text is None else text


def say_untold(pair, end):
    """Tell how many rows handed at an end are not told at the other one."""
    return str(pair.untold(end))


def say_turns(pair, number):
    """Pass so many turns."""
    return both_counts(pair.turns(number))


def say_turn_to(pair, number):
    """Turn to a rate."""
    pair.turn_to(number)
    return say_rate(pair)


def say_hand(pair, end, text):
    """Hand a text to an end."""
    pair.hand(end, bytes_of_text(text))
    return "done"


def say_key(pair, end, text):
    """Key a text at an end."""
    return "out" if pair.key(end, bytes_of_text(text)) else "done"


ALONE = {"turn": say_turn, "rate": say_rate, "quiet": say_quiet, "hang": say_hang}
WITH_END = {"back": say_back, "deaf": say_deaf, "told": say_told, "last": say_last, "untold": say_untold}
WITH_NUMBER = {"turns": say_turns, "rate": say_turn_to}
WITH_TEXT = {"hand": say_hand, "key": say_key}


def answer_with_end(pair, word, rest):
    """Answer a line of a word and an end."""
    if not is_word(rest):
        return NO_LINE
    action = WITH_END[word]
    return action(pair, rest)


def answer_with_number(pair, word, rest):
    """Answer a line of a word and a number."""
    number = plain_number(rest)
    if number is None:
        return NO_LINE
    action = WITH_NUMBER[word]
    return action(pair, number)


def answer_with_text(pair, word, rest):
    """Answer a line of a word, an end and a text, which may be empty."""
    end, blank, text = rest.partition(" ")
    if end == "" or blank == "":
        return NO_LINE
    action = WITH_TEXT[word]
    return action(pair, end, text)


def answer(pair, line):
    """Answer a line, where nothing is refused."""
    if line in ALONE:
        action = ALONE[line]
        return action(pair)
    # What lacks its blank has nothing behind it, which is neither an end nor a number.
    word, blank, rest = line.partition(" ")
    if word in WITH_END:
        return answer_with_end(pair, word, rest)
    if word in WITH_NUMBER:
        return answer_with_number(pair, word, rest)
    if word in WITH_TEXT:
        return answer_with_text(pair, word, rest)
    return NO_LINE


class Desk:
    """Answers lines about this very pair."""

    def __init__(self, pair):
        self.asked = pair

    def say(self, line):
        """Tell the answer to a line."""
        try:
            return answer(self.asked, line)
        except (LineError, Missing) as refusal:
            return f"no {refusal.word}"

    def pair(self):
        """Tell the pair."""
        return self.asked
