"""The pair: both ends over one wire, turn by turn, and the tape of what was done with it."""

from warbleline.end import End
from warbleline.errors import Away, BadCount, BadNoise, NoEnd, NotOpen
from warbleline.keys import PAUSE
from warbleline.learn import BURST, TRAINING_BEATS, paper, trained
from warbleline.points import check_rate
from warbleline.wire import Wire

ENDS = ("one", "other")
MOST_TURNS = 999
NO_NOISE = (0, 0)


def check_end(name):
    """Refuse a name that no end has."""
    if name not in ENDS:
        raise NoEnd(name)


def check_noise(noise):
    """Refuse what is neither a burst's noise nor none."""
    if len(noise) != 0 and len(noise) != BURST:
        raise BadNoise()


def opposite(name):
    """Tell the name of the end that this one talks to."""
    return ENDS[1] if name == ENDS[0] else ENDS[0]


def copied_rows(rows):
    """Tell the same rows, all lists new."""
    return [list(row) for row in rows]


def copied_deed(deed):
    """Tell the same deed, the lists in it new."""
    return tuple([list(part) if isinstance(part, list) else part for part in deed])


def do_hand(pair, deed):
    """Hand a row as the deed tells."""
    pair.hand(deed[1], deed[2])


def do_key(pair, deed):
    """Key a row as the deed tells."""
    pair.key(deed[1], deed[2])


def do_back(pair, deed):
    """Bring an end back as the deed tells."""
    pair.back(deed[1])


def do_turn(pair, deed):
    """Pass a turn as the deed tells."""
    pair.turn(noise=deed[1], deaf=deed[2])


def do_rate(pair, deed):
    """Turn to a rate as the deed tells."""
    pair.turn_to(deed[1])


def do_hang(pair, deed):
    """Hang up."""
    pair.hang()


DEEDS = {"hand": do_hand, "key": do_key, "back": do_back, "turn": do_turn, "rate": do_rate, "hang": do_hang}


class Pair:
    """Two ends that talk over a twin of a wire."""

    def __init__(self, wire, *, noises=(), pause=PAUSE):
        beats = [NO_NOISE] * TRAINING_BEATS if len(noises) == 0 else noises
        forth, back, near, far, loud = trained(wire, beats)
        rate, distance, energy = paper(loud)
        one = End(forth, near, rate=rate, pause=pause)
        other = End(back, far, rate=rate, pause=pause)
        self.ends = {ENDS[0]: one, ENDS[1]: other}
        self.line = wire.twin()
        self.line.hush()
        self.speed = rate
        self.hung = False
        self.deeds = []

    def __len__(self):
        return len([deed for deed in self.deeds if deed[0] == "turn"])

    def __repr__(self):
        return f"Pair(rate {self.speed}, {len(self)} turns)"

    def check_deed(self):
        """Refuse a deed where the pair is hung up."""
        if self.hung:
            raise NotOpen()

    def check_deed_at(self, end):
        """Refuse a deed at an end where the pair is hung up, or has no such end."""
        self.check_deed()
        check_end(end)

    def hand(self, end, row):
        """Hand a row to an end, to be told at the other one."""
        self.check_deed_at(end)
        self.ends[end].take_row(row)
        self.deeds.append(("hand", end, list(row)))

    def key(self, end, row):
        """Key a row in a beat at an end; tell whether the sign to step out was found."""
        self.check_deed_at(end)
        if self.ends[end].away:
            raise Away(end)
        found = self.ends[end].take_keys(row)
        self.deeds.append(("key", end, list(row)))
        return found

    def back(self, end):
        """Bring an end back that stepped out."""
        self.check_deed_at(end)
        self.ends[end].away = False
        self.deeds.append(("back", end))

    def turn(self, *, noise=(), deaf=()):
        """Let both ends say a burst; tell the rows told at one, and those at the other."""
        self.check_deed()
        check_noise(noise)
        for name in deaf:
            check_end(name)
        said = [self.ends[name].say_burst(self.speed) for name in ENDS]
        heard = self.heard_over_line(said, noise)
        told = [self.rows_told(name, heard[at], said[at], name in deaf) for at, name in enumerate(ENDS)]
        self.deeds.append(("turn", list(noise), list(deaf)))
        return (told[0], told[1])

    def heard_over_line(self, said, noise):
        """Let both bursts pass; tell what is heard at one, and at the other."""
        beats = [NO_NOISE] * BURST if len(noise) == 0 else noise
        at_one = []
        at_other = []
        for one, other, both in zip(said[0], said[1], beats):
            here, there = self.line.beat(one, other, noise=both)
            at_one.append(here)
            at_other.append(there)
        return [at_one, at_other]

    def rows_told(self, name, heard, own, is_deaf):
        """Let an end hear a burst, or miss it; tell the rows told there."""
        if is_deaf:
            self.ends[name].ear.deaf(own)
            return []
        return self.ends[name].hear_burst(heard, own)

    def turns(self, many, *, noise=()):
        """Pass so many turns, each with this noise; tell as turn does."""
        self.check_deed()
        if many < 0 or many > MOST_TURNS:
            raise BadCount()
        check_noise(noise)
        at_one = []
        at_other = []
        for count in range(many):
            here, there = self.turn(noise=noise)
            at_one.extend(here)
            at_other.extend(there)
        return (at_one, at_other)

    def turn_to(self, rate):
        """Let both ends talk at this rate from now on."""
        check_rate(rate)
        self.check_deed()
        for name in ENDS:
            self.ends[name].turn_to(rate)
        self.speed = rate
        self.deeds.append(("rate", rate))

    def rate(self):
        """Tell the rate."""
        return self.speed

    def retrain(self, loud):
        """Turn to the rate of the paper for this loudness; tell the paper."""
        self.check_deed()
        found = paper(loud)
        self.turn_to(found[0])
        return found

    def quiet(self):
        """Tell whether nothing waits or is open at either end."""
        return all([self.ends[name].link.idle() for name in ENDS])

    def told(self, end):
        """Tell the rows told at an end."""
        check_end(end)
        return copied_rows(self.ends[end].came)

    def untold_rows(self, end):
        """Tell the rows handed at an end that are not told at the other one."""
        known = len(self.ends[opposite(end)].came)
        return copied_rows(self.ends[end].given[known:])

    def untold(self, end):
        """Tell how many rows handed at an end are not told at the other one."""
        check_end(end)
        return len(self.untold_rows(end))

    def hurt(self, end):
        """Tell how many hurt frames an end heard."""
        check_end(end)
        return self.ends[end].ear.hurt()

    def hang(self):
        """Hang up; tell the rows handed at one that are not told at the other, and those the other way."""
        self.check_deed()
        self.hung = True
        self.deeds.append(("hang",))
        return (self.untold_rows(ENDS[0]), self.untold_rows(ENDS[1]))

    def tape(self):
        """Tell the deeds that were done."""
        return [copied_deed(deed) for deed in self.deeds]

    def play(self, tape):
        """Do the deeds of a tape, all of them or none."""
        self.check_deed()
        trial = self.twin()
        for deed in tape:
            action = DEEDS[deed[0]]
            action(trial, deed)
        self.stand_as(trial)

    def stand_as(self, other):
        """Become as another pair stands, each going on by itself."""
        self.ends = {name: other.ends[name].twin() for name in ENDS}
        self.line = other.line.twin()
        self.speed = other.speed
        self.hung = other.hung
        # Deeds are never changed, only told as copies, so both may have the same ones.
        self.deeds = list(other.deeds)

    def twin(self):
        """Tell a pair that stands as this one and goes on by itself."""
        # Any wire will do to make a pair of, as all that it learns is put in place of it.
        other = Pair(Wire())
        other.stand_as(self)
        return other
