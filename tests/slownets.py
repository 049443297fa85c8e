"""Slow answers about nets, straight from 35 to 41: all goes beat by beat."""

from clockloom.clockwords import clock_word
from tests.slowteller import SlowRun


def has_one(word, k):
    """Whether 1 stands at place k of a word."""
    head, again = word
    return (head + again * (k // len(again) + 1))[k] == "1"


def steps_at(word, beats):
    """For each beat the number of the step that is made there, or None."""
    told, step = [], 0
    for beat in range(beats):
        told.append(step if has_one(word, beat) else None)
        step += has_one(word, beat)
    return told


class SlowNet:
    """A net's tuple with the words of its doors."""

    def __init__(self, book, net):
        self.book = book
        self.instances, self.lanes = net
        self.name_of = dict(self.instances)
        self.words = {}
        for title, name in self.instances:
            for x in book.module(name)[1] + book.module(name)[2]:
                self.words[(title, x)] = clock_word(book, name, x)

    def puts(self, k, title, step):
        """Whether a step of an instance puts on lane k."""
        return step is not None and self.lanes[k][0] == title and has_one(self.words[self.lanes[k][:2]], step)

    def takes(self, k, title, step):
        """Whether a step of an instance takes from lane k."""
        return step is not None and self.lanes[k][2] == title and has_one(self.words[self.lanes[k][2:4]], step)

    def counts(self, drive, k, beats):
        """A list of a tuple (how many lie at the begin, put, taken) for each beat."""
        giver, _, taker, _, first, _ = self.lanes[k]
        lies, told = len(first), []
        for one, other in zip(steps_at(drive[giver], beats), steps_at(drive[taker], beats)):
            put, taken = self.puts(k, giver, one), self.takes(k, taker, other)
            told.append((lies, put, taken))
            lies += put - taken
        return told

    def lane_told(self, drive, k, beats):
        """What lanes_told tells of a lane, if so many beats show it; of one that grows ("grows",)."""
        room = self.lanes[k][5]
        told = self.counts(drive, k, beats)
        for beat, (lies, put, taken) in enumerate(told):
            if taken and lies == 0:
                return ("dry", beat)
            if put and lies == room:
                return ("over", beat)
        needed = [lies + 1 for lies, put, _ in told if put]
        if max([lies for lies, _, _ in told[:beats // 2]]) < max([lies for lies, _, _ in told]):
            return ("grows",)
        least = max([1, len(self.lanes[k][4])] + needed)
        shown = [beat for beat, (lies, put, _) in enumerate(told) if put and lies == least - 1]
        return ("least", least, shown[0] if shown else None)

    def needs(self, title, step, lies):
        """The lanes, by words, that don't have what a step of an instance needs."""
        told = []
        for k, lane in enumerate(self.lanes):
            if self.takes(k, title, step) and lies[k] == 0:
                told.append(("empty", k))
            if self.puts(k, title, step) and lies[k] >= lane[5]:
                told.append(("full", k))
        return told

    def signs_behind(self, title, step, many=400):
        """How the words of an instance go on from a step, as far as these signs tell."""
        return tuple(tuple(has_one(self.words[key], step + at) for at in range(many))
                     for key in self.words if key[0] == title)

    def earliest(self, most=5000):
        """(one, other, going, lies): the beats at which it stands the same, who steps at each beat up to the
        second one, that one too, and what lies at each begin; None where no standing comes again."""
        lies = [len(lane[4]) for lane in self.lanes]
        steps = {title: 0 for title, _ in self.instances}
        seen, going, all_lies = {}, [], []
        for beat in range(most + 1):
            standing = (tuple(lies), tuple(self.signs_behind(title, steps[title]) for title in steps))
            some = [title for title in steps if not self.needs(title, steps[title], lies)]
            going.append(some)
            all_lies.append(list(lies))
            if standing in seen:
                return seen[standing], beat, going, all_lies
            seen[standing] = beat
            for k in range(len(lies)):
                lies[k] += sum(self.puts(k, title, steps[title]) - self.takes(k, title, steps[title]) for title in some)
            for title in some:
                steps[title] += 1
        return None

    def march(self, drive, beats):
        """(going, lies, steps) for each beat, by a drive."""
        lies = [len(lane[4]) for lane in self.lanes]
        steps = {title: 0 for title, _ in self.instances}
        told = []
        for beat in range(beats):
            some = [title for title in steps if has_one(drive[title], beat)]
            told.append((some, list(lies), dict(steps)))
            for k in range(len(lies)):
                lies[k] += sum(self.puts(k, title, steps[title]) - self.takes(k, title, steps[title]) for title in some)
            for title in some:
                steps[title] += 1
        return told

    def reason_right(self, told, beat, title, reason):
        """Whether a reason is right of a step at a beat, of what march tells."""
        if reason[0] == "begin":
            return beat == 0
        if beat == 0:
            return False
        some, lies, steps = told[beat - 1]
        if reason[0] == "own":
            return title in some
        k = reason[1]
        step = told[beat][2][title]
        if reason[0] == "worth":
            giver = self.lanes[k][0]
            return (self.takes(k, title, step) and lies[k] == 0 and giver in some
                    and self.puts(k, giver, steps[giver]))
        taker = self.lanes[k][2]
        return (self.puts(k, title, step) and lies[k] == self.lanes[k][5] and taker in some
                and self.takes(k, taker, steps[taker]))

    def judged(self, drive, paper):
        """What earliest_judged tells of a paper by form."""
        one, other, lines = paper
        told = self.march(drive, other + 1)
        for beat, (some, lies, steps) in enumerate(told[:other]):
            wrong = sorted(k for title in some for _, k in self.needs(title, steps[title], lies))
            if wrong:
                return ("orderly", beat, wrong[0])
        tails = [[tuple(has_one(drive[title], beat + at) for at in range(150)) for title in drive] for beat in (one, other)]
        signs = [[self.signs_behind(title, told[beat][2][title]) for title in drive] for beat in (one, other)]
        if told[one][1] != told[other][1] or tails[0] != tails[1] or signs[0] != signs[1]:
            return ("again",)
        due = [(beat, title) for beat in range(other + 1) for title, _ in self.instances if title in told[beat][0]]
        due += [(None, title) for title, _ in self.instances if not any(title in told[at][0] for at in range(one, other))]
        for i, (beat, title) in enumerate(due):
            if i >= len(lines) or lines[i][:2] != (beat, title) or not self.line_right(told, one, other, lines[i]):
                return ("line", i)
        return None if len(lines) == len(due) else ("line", len(due))

    def line_right(self, told, one, other, line):
        """Whether a line that is due has a right reason."""
        beat, title, reason = line
        if beat is not None:
            return self.reason_right(told, beat, title, reason)
        word, k = reason
        step = told[one][2][title]
        if word == "empty":
            return self.takes(k, title, step) and all(told[at][1][k] == 0 for at in range(one, other))
        return self.puts(k, title, step) and all(told[at][1][k] == self.lanes[k][5] for at in range(one, other))

    def run(self, drive, fed):
        """A list of (outs, lying) for each beat, fed being what is handed in at each; the last one
        is ("dry", k) or ("over", k) where it comes to that."""
        runs = {title: SlowRun(self.book, name) for title, name in self.instances}
        lying = [list(lane[4]) for lane in self.lanes]
        told = []
        for handed, (some, _, steps) in zip(fed, self.march(drive, len(fed))):
            takes = [k for k in range(len(lying)) if any(self.takes(k, title, steps[title]) for title in some)]
            puts = [k for k in range(len(lying)) if any(self.puts(k, title, steps[title]) for title in some)]
            dry = [k for k in takes if not lying[k]]
            over = [k for k in puts if len(lying[k]) == self.lanes[k][5]]
            if dry or over:
                return told + [("dry", dry[0]) if dry else ("over", over[0])]
            worths = dict(handed)
            for k in takes:
                worths[self.lanes[k][2:4]] = lying[k].pop(0)
            outs = {}
            for title in some:
                ins = self.book.module(self.name_of[title])[1]
                told_outs = runs[title].feed({x: worths.get((title, x)) for x in ins})
                outs.update({(title, out): worth for out, worth in told_outs.items()})
            for k in puts:
                lying[k].append(outs[self.lanes[k][:2]])
            told.append((outs, [list(some) for some in lying]))
        return told

    def due(self, drive, beats):
        """For each beat the doors that are due."""
        doors = [(title, x) for title, name in self.instances for x in self.book.module(name)[1]
                 if (title, x) not in [lane[2:4] for lane in self.lanes]]
        return [[door for door in doors if door[0] in some and has_one(self.words[door], steps[door[0]])]
                for some, _, steps in self.march(drive, beats)]
