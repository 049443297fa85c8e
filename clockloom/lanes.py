"""How many worths lie on lanes, by counts alone, and what comes of that."""

from math import lcm

from clockloom.errors import NoDrive, TooLong
from clockloom.things import alike, is_whole
from clockloom.words import MOST_SIGNS, first_signs, is_word, on, ones


def check_drive(net, drive):
    """Refuses a dict that doesn't lead just the titles of a net to words."""
    titles = [instance.title for instance in net.instances]
    if len(drive) != len(titles) or not all([title in drive and is_word(drive[title]) for title in titles]):
        raise NoDrive("a drive leads each title of the net to a word")


class Lying:
    """How many worths lie on a lane at the begin of each beat.

    From the beat head on, puts and takes go on alike behind each round, behind which more lie
    (or fewer, by a number below 0). Signs and what lies are kept of the first round's beats alone.
    """

    def __init__(self, many_first, put_word, take_word):
        self.head = max(len(put_word[0]), len(take_word[0]))
        self.round = lcm(len(put_word[1]), len(take_word[1]))
        if self.round > MOST_SIGNS:
            raise TooLong("both ends' words go on alike behind too many beats alone")
        end = self.head + self.round
        self._many_first = many_first
        self._words = (put_word, take_word)
        self._puts = first_signs(put_word, end)
        self._takes = first_signs(take_word, end)
        self._lies = [many_first]
        for put, take in zip(self._puts, self._takes):
            self._lies.append(self._lies[-1] + int(put) - int(take))
        self.more = self._lies[end] - self._lies[self.head]

    def lies_at(self, beat):
        """How many lie there at the begin of any beat."""
        put_word, take_word = self._words
        return self._many_first + ones(put_word, beat) - ones(take_word, beat)

    def _first_beat(self, signs, level, way):
        """The least beat with a sign 1 at which as many lie as level: no fewer, by way 1, or no more, by -1."""
        for beat, sign in enumerate(signs):
            if sign == "1" and way * self._lies[beat] >= way * level:
                return beat
        each = way * self.more
        if each <= 0:
            return None
        told = []
        for beat in range(self.head, len(signs)):
            if signs[beat] == "1":
                rounds = (way * (level - self._lies[beat]) + each - 1) // each
                told.append(beat + rounds * self.round)
        return min(told, default=None)

    def runs_dry(self):
        """The beat at which the lane runs dry, or None."""
        return self._first_beat(self._takes, 0, -1)

    def runs_over(self, room):
        """The beat at which a lane of this room runs over, or None."""
        return self._first_beat(self._puts, room, 1)

    def least(self):
        """The least room of a lane on which no more lie behind a round, and the beat that shows it."""
        beats = [beat for beat, sign in enumerate(self._puts) if sign == "1"]
        room = max([1, self._many_first] + [self._lies[beat] + 1 for beat in beats])
        return (room, min([beat for beat in beats if self._lies[beat] == room - 1], default=None))

    def grows_from(self, one, other):
        """Whether puts and takes go on alike from two beats, and more lie at the other one."""
        for head, again in self._words:
            if one < len(head) or (other - one) % len(again) != 0:
                return False
        return self.lies_at(other) > self.lies_at(one)


def _lying_on(net, drive, lane):
    put_word = on(drive[net.instances[lane.giver].title], lane.put_word)
    take_word = on(drive[net.instances[lane.taker].title], lane.take_word)
    return Lying(len(lane.first), put_word, take_word)


def _told(lane, lying):
    dry = lying.runs_dry()
    over = None if lane.room is None else lying.runs_over(lane.room)
    if dry is not None and (over is None or dry <= over):
        return ("dry", dry)
    if over is not None:
        return ("over", over)
    # A lane with a room that grows would have run over.
    if lying.more > 0:
        return ("grows", lying.head, lying.head + lying.round)
    return ("least", *lying.least())


def lane_told(net, drive, lane):
    """Whether a lane runs dry, or over, or grows, else its least room."""
    return _told(lane, _lying_on(net, drive, lane))


def is_lane_told(net, drive, lane, thing):
    """Whether a thing tells what lane_told does, or any two right beats of a lane that grows."""
    lying = _lying_on(net, drive, lane)
    told = _told(lane, lying)
    if told[0] != "grows":
        return alike(told, thing)
    if not isinstance(thing, tuple) or len(thing) != 3 or thing[0] != "grows":
        return False
    one, other = thing[1:]
    return is_whole(one) and is_whole(other) and 0 <= one < other and lying.grows_from(one, other)
