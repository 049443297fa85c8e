"""Nets that go beat by beat, by counts alone: what lies on lanes, and who steps."""

from clockloom.errors import NoRoom


def check_rooms(net):
    """Refuses a net with a lane that has no room told."""
    for k, lane in enumerate(net.lanes):
        if lane.room is None:
            raise NoRoom(k)


def has_one(word, k):
    """Whether 1 stands at a place of a word, looked at no further."""
    head, again = word
    if k < len(head):
        return head[k] == "1"
    return again[(k - len(head)) % len(again)] == "1"


class Walker:
    """An instance's lanes by its steps: from which a step takes, on which it puts, each told once."""

    def __init__(self, instance):
        self.title = instance.title
        self._instance = instance
        self._lanes = {}

    def phase(self, step):
        """A number that is the same of two steps from which on the words go on alike, of no others."""
        return self._instance.phase(step)

    def lanes_at(self, step):
        """(takes, puts), the lanes' numbers."""
        at = self.phase(step)
        if at not in self._lanes:
            takes = [k for k, word in self._instance.takes if has_one(word, at)]
            puts = [k for k, word in self._instance.puts if has_one(word, at)]
            self._lanes[at] = (takes, puts)
        return self._lanes[at]


class March:
    """What was done beat by beat, and how it stands at each beat's begin.

    lies has for each beat how many lie on each lane at its begin, steps how many steps each
    instance has made by then, and going the numbers of the instances that step at it.
    """

    def __init__(self, net):
        self.walkers = [Walker(instance) for instance in net.instances]
        self.rooms = [lane.room for lane in net.lanes]
        self._ends = [(lane.giver, lane.taker) for lane in net.lanes]
        self.lies = [[len(lane.first) for lane in net.lanes]]
        self.steps = [[0 for _ in net.instances]]
        self.going = []

    def lanes_of(self, number, beat):
        """(takes, puts) of an instance's next step at a beat."""
        return self.walkers[number].lanes_at(self.steps[beat][number])

    def may_step(self, number):
        """Whether an instance finds what it needs for its next step, at the last begin."""
        takes, puts = self.lanes_of(number, -1)
        lies = self.lies[-1]
        for k in takes:
            if lies[k] == 0:
                return False
        for k in puts:
            if lies[k] >= self.rooms[k]:
                return False
        return True

    def lacking(self, some):
        """The least lane that doesn't have what one of some instances needs, at the last begin, or None."""
        lies = self.lies[-1]
        told = []
        for number in some:
            takes, puts = self.lanes_of(number, -1)
            told.extend([k for k in takes if lies[k] == 0])
            told.extend([k for k in puts if lies[k] >= self.rooms[k]])
        return min(told, default=None)

    def go(self, some):
        """Makes a beat at which some instances step."""
        lies = list(self.lies[-1])
        steps = list(self.steps[-1])
        for number in some:
            takes, puts = self.lanes_of(number, -1)
            for k in takes:
                lies[k] -= 1
            for k in puts:
                lies[k] += 1
            steps[number] += 1
        self.going.append(some)
        self.lies.append(lies)
        self.steps.append(steps)

    def standing(self, beat):
        """The standing at a beat's begin, the same just where it is the same."""
        phases = [walker.phase(step) for walker, step in zip(self.walkers, self.steps[beat])]
        return (tuple(self.lies[beat]), tuple(phases))

    def reasons_for(self, number, beat):
        """All reasons that are right of an instance's step at a beat."""
        if beat == 0:
            return [("begin",)]
        takes, puts = self.lanes_of(number, beat)
        lies = self.lies[beat - 1]
        own = [("own",)] if number in self.going[beat - 1] else []
        worths = [("worth", k) for k in takes if lies[k] == 0 and self._is_put_on(k, beat - 1)]
        rooms = [("room", k) for k in puts if lies[k] == self.rooms[k] and self._is_taken_from(k, beat - 1)]
        return own + worths + rooms

    def _is_put_on(self, k, beat):
        giver = self._ends[k][0]
        return giver in self.going[beat] and k in self.lanes_of(giver, beat)[1]

    def _is_taken_from(self, k, beat):
        taker = self._ends[k][1]
        return taker in self.going[beat] and k in self.lanes_of(taker, beat)[0]

    def hindrances(self, number, one, other):
        """Why an instance steps at no beat from one up to the other: lanes that lie empty, or full, all the while."""
        takes, puts = self.lanes_of(number, one)
        some = self.lies[one:other]
        empty = [("empty", k) for k in takes if not [lies for lies in some if lies[k] != 0]]
        full = [("full", k) for k in puts if not [lies for lies in some if lies[k] != self.rooms[k]]]
        return empty + full

    def resting(self, one, other):
        """The numbers of the instances that step at no beat from one up to the other."""
        stepping = {number: True for some in self.going[one:other] for number in some}
        return [number for number in range(len(self.walkers)) if number not in stepping]

    def other_end(self, k, number):
        """The instance at the other end of lane k, the same one where the lane leads to itself."""
        giver, taker = self._ends[k]
        return taker if number == giver else giver
