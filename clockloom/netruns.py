"""Nets that run: worths put on lanes and taken from them, beat by beat."""

from clockloom.errors import Dry, NoBeat, Over
from clockloom.feeding import is_worth
from clockloom.grounds import ground_of
from clockloom.lanes import check_drive
from clockloom.marching import Walker, has_one


class NetRun:
    """A net that goes by a drive, beat by beat."""

    def __init__(self, net, drive):
        check_drive(net, drive)
        self._net = net
        self._drive = {instance.title: drive[instance.title] for instance in net.instances}
        self._grounds = [ground_of(net.book, instance.name) for instance in net.instances]
        self._walkers = [Walker(instance) for instance in net.instances]
        self._cells = [ground.plan.cell_begins for ground in self._grounds]
        self._steps = [0 for _ in net.instances]
        self._lying = [list(lane.first) for lane in net.lanes]
        self._made = 0

    def _stepping(self):
        """The numbers of the instances that step at this beat."""
        words = [self._drive[instance.title] for instance in self._net.instances]
        return [number for number, word in enumerate(words) if has_one(word, self._made)]

    def _lanes_at(self, number):
        """(takes, puts) of an instance's next step."""
        return self._walkers[number].lanes_at(self._steps[number])

    def _check_lanes(self, stepping):
        """Refuses a beat at which a lane would be taken from where it is empty, or put on where it is full."""
        empty = [k for number in stepping for k in self._lanes_at(number)[0] if not self._lying[k]]
        if empty:
            raise Dry(min(empty))
        rooms = [lane.room for lane in self._net.lanes]
        full = [k for number in stepping for k in self._lanes_at(number)[1] if len(self._lying[k]) == rooms[k]]
        if full:
            raise Over(min(full))

    def _due(self, stepping):
        """The doors that are due, each led to its kind."""
        told = {}
        for number in stepping:
            instance = self._net.instances[number]
            for x in instance.ins:
                if x not in instance.lane_of and has_one(instance.words[x], self._steps[number]):
                    told[(instance.title, x)] = instance.kind_of[x]
        return told

    def _check_handed(self, due, handed):
        measure = self._net.book.measure()
        for door in due:
            if door not in handed or not is_worth(due[door], handed[door], measure):
                raise NoBeat(door)
        for key in handed:
            if not _is_door(key) or key not in due:
                raise NoBeat(key)

    def _ins_of(self, number, handed):
        """What an instance's module is fed: None for what it neither takes nor is handed."""
        instance = self._net.instances[number]
        told = {x: handed.get((instance.title, x)) for x in instance.ins}
        takes = self._lanes_at(number)[0]
        for x in instance.ins:
            if instance.lane_of.get(x) in takes:
                told[x] = self._lying[instance.lane_of[x]][0]
        return told

    def beat(self, handed):
        """Makes the next beat and tells a dict of the outs of the instances that step."""
        stepping = self._stepping()
        self._check_lanes(stepping)
        self._check_handed(self._due(stepping), handed)
        told = {}
        taken = []
        put = []
        for number in stepping:
            instance = self._net.instances[number]
            plan = self._grounds[number].plan
            worths, self._cells[number] = plan.beat(self._cells[number], self._ins_of(number, handed))
            outs = plan.told_outs(worths)
            takes, puts = self._lanes_at(number)
            taken.extend(takes)
            put.extend([(k, outs[self._net.lanes[k].out]) for k in puts])
            for out in outs:
                told[(instance.title, out)] = outs[out]
        for number in stepping:
            self._steps[number] += 1
        self._move(taken, put)
        self._made += 1
        return told

    def _move(self, taken, put):
        for k in taken:
            self._lying[k].pop(0)
        for k, worth in put:
            self._lying[k].append(worth)

    def lying(self):
        """A list for each lane of what lies there, the longest there first."""
        return [list(worths) for worths in self._lying]

    def copy(self):
        """Another NetRun that stands as this one."""
        told = NetRun(self._net, self._drive)
        told._cells = list(self._cells)
        told._steps = list(self._steps)
        told._lying = self.lying()
        told._made = self._made
        return told

    def __len__(self):
        return len(range(self._made))


def _is_door(key):
    return isinstance(key, tuple) and len(key) == 2 and isinstance(key[0], str) and isinstance(key[1], str)
