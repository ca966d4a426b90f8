"""The interface as a whole: each name, its arguments and defaults, and a wrong rate ahead of all else of a call."""

import unittest
from functools import partial
from importlib import import_module
from inspect import Parameter, isclass, signature

from helpers import HUGE, Checks
from warbleline.errors import BadRate
from warbleline.pair import Pair
from warbleline.points import point, step
from warbleline.trellis import coded, heard_path, least_distance, nearest
from warbleline.voice import Ear, Mouth
from warbleline.wire import Wire

WRONG_RATES = (0, 5, -1, HUGE, -HUGE)

VALUES = {
    "seal": {"SEAL": 16},
    "frames": {"LONGEST": 256, "MOST_OPEN": 400, "MARK": (0, 1, 1, 1, 1, 1, 1, 0)},
    "book": {"MOST_WORDS": 300, "LONGEST_ROW": 60},
    "points": {"RING": 256, "RATES": (1, 2, 3, 4)},
    "trellis": {"TAIL": 2},
    "learn": {"STRONG": 1000, "DATA": 16, "BURST": 18},
    "voice": {"MOST_QUEUE": 2000},
    "link": {"PIECE": 40, "WINDOW": 4, "MOST_PIECES": 40},
    "keys": {"PAUSE": 3, "MARK_KEY": 43},
    "pair": {"ENDS": ("one", "other")},
}

# Written as in a definition, without the object itself; for a class the arguments to make one.
CALLS = {
    "bits": ("bits_of(row)", "bytes_of(bits)", "number_bits(number, many)", "bits_number(bits)"),
    "seal": ("seal_of(bits)", "sealed(bits)", "holds(bits)"),
    "frames": ("stuffed(bits)", "unstuffed(bits)", "framed(payload)", "Reader()", "Reader.take(bits)",
               "Reader.forget()", "Reader.hurt()", "Reader.waiting()", "Reader.twin()"),
    "scramble": tuple(kind + rest for kind in ("Scrambler", "Descrambler")
                      for rest in ("(*, seed=0)", ".push(bits)", ".memory()", ".twin()")),
    "book": ("Book()", "Book.shorten(row)", "Book.lengthen(codes)", "Book.pack(row)", "Book.unpack(bits)",
             "Book.learnt()", "Book.twin()"),
    "points": ("folded(number)", "apart(one, other)", "step(rate)", "point(number, *, rate=1)"),
    "trellis": ("coded(bits, *, rate=1)", "heard_path(heard, *, rate=1)", "least_distance(*, rate=1)",
                "nearest(*, rate=1)"),
    "wire": ("Wire(*, forth=(), back=(), near=(), far=())", "Wire.shares()", "Wire.beat(one, other, *, noise=(0, 0))",
             "Wire.hush()", "Wire.twin()"),
    "shape": ("Shaper(shares=())", "Shaper.say(value)", "Shaper.past()", "Shaper.twin()"),
    "learn": ("probe()", "shares_of(heard)", "taps_of(heard)", "echo_of(heard)", "trained(wire, noises)",
              "paper(loud, *, beats=18)", "paper_holds(found, loud, *, beats=18)"),
    "voice": ("Mouth(shares=(), *, rate=1, seed=0)", "Mouth.tell(payload)", "Mouth.burst()", "Mouth.waiting()",
              "Mouth.turn_to(rate)", "Mouth.twin()", "Ear(echo=(), *, rate=1, seed=0)", "Ear.hear(heard, own)",
              "Ear.deaf(own)", "Ear.hurt()", "Ear.turn_to(rate)", "Ear.twin()"),
    "link": ("Link()", "Link.hand(row)", "Link.frame()", "Link.take(payload)", "Link.waiting()", "Link.unanswered()",
             "Link.awaited()", "Link.idle()", "Link.twin()"),
    "keys": ("Guard(*, pause=3)", "Guard.beat(row)", "Guard.held()", "Guard.twin()"),
    "pair": ("Pair(wire, *, noises=(), pause=3)", "Pair.hand(end, row)", "Pair.key(end, row)", "Pair.back(end)",
             "Pair.turn(*, noise=(), deaf=())", "Pair.turns(many, *, noise=())", "Pair.turn_to(rate)", "Pair.rate()",
             "Pair.retrain(loud)", "Pair.quiet()", "Pair.told(end)", "Pair.untold(end)", "Pair.hurt(end)",
             "Pair.hang()", "Pair.tape()", "Pair.play(tape)", "Pair.twin()"),
    "desk": ("Desk(pair)", "Desk.say(line)", "Desk.pair()"),
}


def as_written(call):
    """The arguments of a function or method, as the document writes them."""
    parts, starred = [], False
    for name, parameter in signature(call).parameters.items():
        if name == "self":
            continue
        if parameter.kind is Parameter.KEYWORD_ONLY and not starred:
            parts.append("*")
            starred = True
        parts.append(name if parameter.default is Parameter.empty else f"{name}={parameter.default!r}")
    return f"({', '.join(parts)})"


class NamesTest(unittest.TestCase):
    def test_values(self):
        for module, values in VALUES.items():
            for name, value in values.items():
                found = getattr(import_module("warbleline." + module), name)
                self.assertEqual((found, type(found)), (value, type(value)), name)

    def test_arguments(self):
        for module, calls in CALLS.items():
            for call in calls:
                name, rest = call.split("(", 1)
                found = import_module("warbleline." + module)
                for part in name.split("."):
                    # A method stands in the class itself.
                    found = vars(found)[part]
                self.assertEqual(as_written(found), "(" + rest, name)
                self.assertEqual(isclass(found), name[0].isupper() and "." not in name, name)


class RateTest(Checks, unittest.TestCase):
    def test_wrong_rates_go_ahead_of_all_else(self):
        hung = Pair(Wire())
        hung.hang()
        for rate in WRONG_RATES:
            for call in (partial(step, rate), partial(point, 0, rate=rate), partial(point, -HUGE, rate=rate),
                         partial(coded, [], rate=rate), partial(coded, [0, 2, -1], rate=rate),
                         partial(heard_path, [0, 0], rate=rate), partial(heard_path, [], rate=rate),
                         partial(least_distance, rate=rate), partial(nearest, rate=rate),
                         partial(Mouth, rate=rate), partial(Mouth, (9,), rate=rate, seed=-HUGE),
                         partial(Ear, rate=rate), partial(Ear, (9,) * 99, rate=rate, seed=HUGE),
                         partial(Mouth().turn_to, rate), partial(Ear().turn_to, rate),
                         partial(Pair(Wire()).turn_to, rate), partial(hung.turn_to, rate)):
                self.refused(BadRate, call)


if __name__ == "__main__":
    unittest.main()
