"""Words found for nets: the earliest drive, why it is the earliest, and why instances wait."""

from clockloom.errors import NoTitle, NoWait, TooLong
from clockloom.lanes import check_drive
from clockloom.marching import March, check_rooms
from clockloom.reasonforms import MOST_BEATS, is_paper
from clockloom.things import alike
from clockloom.words import first_signs, least_word


class Found:
    """The march by which all go as soon as they can, and the two beats at which it stands the same."""

    def __init__(self, net):
        self.march = March(net)
        self.one = None
        self.other = 0
        seen = {}
        while self.one is None:
            standing = self.march.standing(self.other)
            # The instances that step are known of the second beat, too.
            self.march.go([n for n in range(len(net.instances)) if self.march.may_step(n)])
            if standing in seen:
                self.one = seen[standing]
            elif self.other == MOST_BEATS:
                raise TooLong("no standing comes again so soon")
            else:
                seen[standing] = self.other
                self.other += 1


def _found_of(net):
    """The Found of a net, looked for once."""
    check_rooms(net)
    if "earliest" not in net.found:
        net.found["earliest"] = Found(net)
    return net.found["earliest"]


def earliest(net):
    """The drive by which the instances of a net go as soon as they can."""
    found = _found_of(net)
    told = {}
    for number, instance in enumerate(net.instances):
        signs = "".join(["1" if number in some else "0" for some in found.march.going[:found.other]])
        told[instance.title] = least_word((signs[:found.one], signs[found.one:]))
    return told


def reasons(net):
    """A paper for the earliest drive: two beats, and why each step was not made earlier."""
    found = _found_of(net)
    march = found.march
    lines = []
    for beat in range(found.other + 1):
        for number in march.going[beat]:
            lines.append((beat, march.walkers[number].title, march.reasons_for(number, beat)[0]))
    for number in march.resting(found.one, found.other):
        reason = march.hindrances(number, found.one, found.other)[0]
        lines.append((None, march.walkers[number].title, reason))
    return (found.one, found.other, lines)


def _marched(net, drive, other):
    """(march, None) of a drive that is orderly ahead of a beat, or (None, wrong)."""
    march = March(net)
    signs = [first_signs(drive[instance.title], other + 1) for instance in net.instances]
    for beat in range(other + 1):
        some = [number for number, text in enumerate(signs) if text[beat] == "1"]
        k = march.lacking(some)
        # At the second beat all is as at the first one, if it is so at all.
        if k is not None and beat < other:
            return (None, ("orderly", beat, k))
        march.go(some)
    return (march, None)


def _goes_on_alike(word, one, other):
    head, again = least_word(word)
    return one >= len(head) and (other - one) % len(again) == 0


def _line_wrong(march, one, other, lines):
    """("line", i) of the first line that isn't right, None where all are and none is lacking."""
    due = [(beat, number) for beat in range(other + 1) for number in march.going[beat]]
    due.extend([(None, number) for number in march.resting(one, other)])
    for i, (beat, number) in enumerate(due):
        if i == len(lines) or not alike(lines[i][:2], (beat, march.walkers[number].title)):
            return ("line", i)
        right = march.hindrances(number, one, other) if beat is None else march.reasons_for(number, beat)
        if lines[i][2] not in right:
            return ("line", i)
    return None if len(lines) == len(due) else ("line", len(due))


def earliest_judged(net, drive, paper):
    """None where a paper shows that a drive is the earliest, else the first that is not so."""
    check_rooms(net)
    check_drive(net, drive)
    if not is_paper(paper, len(net.lanes)):
        return ("paper",)
    one, other, lines = paper
    march, wrong = _marched(net, drive, other)
    if wrong is not None:
        return wrong
    alike_words = [_goes_on_alike(drive[instance.title], one, other) for instance in net.instances]
    if march.standing(one) != march.standing(other) or not all(alike_words):
        return ("again",)
    return _line_wrong(march, one, other, lines)


def waits(net, title):
    """Why an instance steps no more, one behind the other."""
    found = _found_of(net)
    march = found.march
    number_of = {walker.title: number for number, walker in enumerate(march.walkers)}
    if title not in number_of:
        raise NoTitle("there is no such instance")
    resting = march.resting(found.one, found.other)
    if number_of[title] not in resting:
        raise NoWait("this instance steps on without end")
    told = []
    ahead = {}
    number = number_of[title]
    while number not in ahead:
        ahead[number] = True
        name = march.walkers[number].title
        if number not in resting:
            told.append((name, "over", None))
            break
        word, k = march.hindrances(number, found.one, found.other)[0]
        told.append((name, word, k))
        number = march.other_end(k, number)
    return told
