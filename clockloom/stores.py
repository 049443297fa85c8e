"""A store of modules that are changed while runs go on."""

from clockloom.books import MEASURE, Book
from clockloom.errors import LoomError, NoBack, NoDeed
from clockloom.facing import seen_in
from clockloom.rings import first_order
from clockloom.shapes import calls_of
from clockloom.storestates import COUNTS, Kept, Several, done


def _is_deed(thing):
    if not isinstance(thing, tuple) or not thing or not isinstance(thing[0], str):
        return False
    return COUNTS.get(thing[0]) == len(thing) - 1


class Store:
    """Modules, and runs of them by titles."""

    def __init__(self, modules=(), *, measure=MEASURE):
        if isinstance(modules, tuple):
            modules = list(modules)
        self._kept = Kept(Book(modules, measure=measure))
        self._done = []
        self._undone = []
        self._log = []
        self._settled = {}

    def _logged(self, word, things):
        """Does a deed, writes that in the log, and tells what it tells and its change."""
        try:
            told, change = done(self._kept, word, things)
        except LoomError:
            self._log.append((word, "refused"))
            raise
        self._log.append((word, "done"))
        return (told, change)

    def _remember(self, change):
        self._done.append(change)
        self._undone = []

    def _deed(self, word, things):
        told, change = self._logged(word, things)
        self._remember(change)
        return told

    def put(self, module):
        """A module comes in the place of the one of its name, or behind the others."""
        self._deed("put", (module,))

    def drop(self, name):
        """A module goes."""
        self._deed("drop", (name,))

    def begin(self, title, name):
        """A run of a module begins."""
        self._deed("begin", (title, name))

    def feed(self, title, ins):
        """A run is fed, and a dict of its outs told."""
        return self._deed("feed", (title, ins))

    def over(self, title):
        """A run goes over to the modules as they are; a tuple (way, place) is told for all that it carries."""
        return self._deed("over", (title,))

    def end(self, title):
        """A run goes."""
        self._deed("end", (title,))

    def back(self):
        """Takes back the last deed that wasn't taken back."""
        if not self._done:
            self._log.append(("back", "refused"))
            raise NoBack("there is no deed to be taken back")
        change = self._done.pop()
        change.take_back(self._kept)
        self._undone.append(change)
        self._log.append(("back", "done"))

    def again(self):
        """Does the last deed taken back again."""
        if not self._undone:
            self._log.append(("again", "refused"))
            raise NoBack("there is no deed to be done again")
        change = self._undone.pop()
        change.make_again(self._kept)
        self._done.append(change)
        self._log.append(("again", "done"))

    def deeds(self, rows, *, keep=False):
        """Does a row of deeds, which are one for back and again, and tells a list of what each tells."""
        self._log.append(("deeds", "begun"))
        told = []
        changes = []
        try:
            for at, row in enumerate(rows):
                if not _is_deed(row):
                    raise NoDeed(at)
                answer, change = self._logged(row[0], row[1:])
                told.append(answer)
                changes.append(change)
        except LoomError:
            if not keep:
                Several(changes).take_back(self._kept)
            elif changes:
                self._remember(Several(changes))
            self._log.append(("deeds", "refused"))
            raise
        if changes:
            self._remember(Several(changes))
        self._log.append(("deeds", "done"))
        return told

    def modules(self):
        """The list of the modules."""
        return self._kept.book.modules()

    def book(self):
        """The modules as a Book."""
        return self._kept.book

    def run_of(self, title):
        """A copy of a run."""
        return self._kept.begun(title).run.copy()

    def ins_of(self, title):
        """The ins of a run's module; none where there is no such run."""
        return self._kept.runs[title].run.ins() if title in self._kept.runs else ()

    def titles(self):
        """The titles of the runs, in the order in which they came."""
        runs = self._kept.runs
        return [title for _, title in sorted([(runs[x].came, x) for x in runs])]

    def faces(self):
        """A tuple (name, face or None) for each module."""
        names = [module[0] for module in self.modules()]
        return [(name, self._face_of(name)) for name in names]

    def _face_of(self, name):
        return seen_in(self._kept.book, name)[name].face

    def settle(self):
        """The names of the modules that are looked at anew, those called ahead of those that call them."""
        modules = self.modules()
        faces = {name: face for name, face in self.faces()}
        anew = {}
        for module in modules:
            called = [call[1] for _, _, call in calls_of(module)]
            ahead = self._settled.get(module[0], (None, None))[0]
            if ahead != module or [m for m in called if self._settled[m][1] != faces[m]]:
                anew[module[0]] = called
        self._settled = {module[0]: (module, faces[module[0]]) for module in modules}
        return first_order({name: [m for m in anew[name] if m in anew] for name in anew})

    def log(self):
        """A tuple (word, how it ended) for each deed that was asked."""
        return list(self._log)

    def __len__(self):
        return len(self._kept.book)
