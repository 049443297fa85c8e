"""Nets: instances of modules, with lanes between their outs and ins."""

from clockloom.clockwords import door_words
from clockloom.errors import NoLane, NoNet
from clockloom.feeding import is_worth
from clockloom.lanes import check_drive, is_lane_told, lane_told
from clockloom.netframes import Lots, instances_of, lanes_of
from clockloom.things import alike, is_name, is_whole

MOST_INSTANCES = 8
MOST_LANES = 16
MOST_FIRST = 20
MOST_ROOM = 200


def _is_frame(thing):
    if not isinstance(thing, tuple) or len(thing) != 2:
        return False
    instances, lanes = thing
    if not isinstance(instances, tuple) or not isinstance(lanes, tuple):
        return False
    return 1 <= len(instances) <= MOST_INSTANCES and len(lanes) <= MOST_LANES


def _is_instance(book, thing):
    if not isinstance(thing, tuple) or len(thing) != 2 or not is_name(thing[0]):
        return False
    return book.has(thing[1]) and door_words(book, thing[1]) is not None


def _is_end(title, x, doors):
    """Whether x is among the doors of the instance of this title."""
    return isinstance(title, str) and isinstance(x, str) and x in doors.get(title, ())


def _lies_there(first, room, measure):
    """Whether worths may lie on a lane of this room at the begin."""
    if not isinstance(first, tuple) or len(first) > MOST_FIRST:
        return False
    if not all([isinstance(worth, bool) or is_worth("number", worth, measure) for worth in first]):
        return False
    return room is None or (is_whole(room) and max(1, len(first)) <= room <= MOST_ROOM)


def _is_lane(book, instances, thing):
    """Whether a thing is a lane by form, ends, first worths and room."""
    if not isinstance(thing, tuple) or len(thing) != 6:
        return False
    giver, out, taker, x, first, room = thing
    outs = {instance.title: instance.outs for instance in instances}
    ins = {instance.title: instance.ins for instance in instances}
    return _is_end(giver, out, outs) and _is_end(taker, x, ins) and _lies_there(first, room, book.measure())


def _instances_wrong(book, instances):
    ahead = {}
    for i, thing in enumerate(instances):
        if not _is_instance(book, thing) or thing[0] in ahead:
            return ("instance", i)
        ahead[thing[0]] = True
    return None


def _lanes_wrong(book, net):
    instances = instances_of(book, net)
    by_title = {instance.title: instance for instance in instances}
    lots = Lots()
    for i, lane in enumerate(net[1]):
        if not _is_lane(book, instances, lane) or not lots.tie_lane(by_title[lane[0]], by_title[lane[2]], lane):
            return ("lane", i)
    ahead = {}
    for i, lane in enumerate(net[1]):
        if lane[2:4] in ahead:
            return ("in", i)
        ahead[lane[2:4]] = True
    return None


def net_wrong(book, thing):
    """None where a thing is a net of a book, else the first that is not so."""
    if not _is_frame(thing):
        return ("net",)
    return _instances_wrong(book, thing[0]) or _lanes_wrong(book, thing)


class Net:
    """A net as an object, which stays as it is."""

    def __init__(self, book, net):
        wrong = net_wrong(book, net)
        if wrong is not None:
            raise NoNet(wrong)
        self._net = net
        # Nothing may change these, but what other files find out of the net is kept in the last one.
        self.book = book
        self.instances = instances_of(book, net)
        self.lanes = lanes_of(self.instances, net)
        self.found = {}

    def shape(self):
        """The tuple of which the net was made."""
        return self._net

    def doors(self):
        """A tuple (title, in) for each in without a lane."""
        return [
            (instance.title, x) for instance in self.instances for x in instance.ins if x not in instance.lane_of
        ]

    def __eq__(self, other):
        return isinstance(other, Net) and self.book == other.book and alike(self._net, other._net)

    def __len__(self):
        return len(self.lanes)


def lanes_told(net, drive):
    """For each lane of a net whether it runs dry, or over, or grows, else the least room."""
    check_drive(net, drive)
    return [lane_told(net, drive, lane) for lane in net.lanes]


def lane_judged(net, drive, k, thing):
    """Whether a thing is right of lane k, as lanes_told tells, or of its beats where it grows."""
    check_drive(net, drive)
    if not is_whole(k) or not 0 <= k < len(net.lanes):
        raise NoLane("there is no lane of this number")
    return is_lane_told(net, drive, net.lanes[k], thing)
