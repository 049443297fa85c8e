"""Books: modules that call one another, without a ring."""

from clockloom.errors import NoBook, NoMeasure, NoName
from clockloom.rings import order_of
from clockloom.shapes import calls_of, copied_module
from clockloom.things import is_whole
from clockloom.trees import module_wrong

MEASURE = 2147483647
MOST_MODULES = 12


def _modules_wrong(modules):
    for i, module in enumerate(modules):
        wrong = module_wrong(module)
        if wrong is not None:
            return ("module", i, wrong)
    return None


def _names_wrong(modules):
    ahead = {}
    for i, module in enumerate(modules):
        if module[0] in ahead:
            return ("name", i)
        ahead[module[0]] = True
    return None


def _calls_wrong(modules):
    doors = {module[0]: (len(module[1]), len(module[2])) for module in modules}
    for i, module in enumerate(modules):
        for k, targets, call in calls_of(module):
            if doors.get(call[1]) != (len(call[2]), len(targets)):
                return ("call", i, k)
    return None


def _called(module):
    return [call[1] for _, _, call in calls_of(module)]


def _ring_wrong(modules):
    told = order_of({module[0]: _called(module) for module in modules})
    if told[0] == "ring":
        return told
    return None


def book_wrong(thing):
    """None where a thing is a list of modules that makes a book, else the first that is not so."""
    if not isinstance(thing, list) or len(thing) > MOST_MODULES:
        return ("modules",)
    wrong = _modules_wrong(thing) or _names_wrong(thing)
    return wrong or _calls_wrong(thing) or _ring_wrong(thing)


class Book:
    """Modules of unlike names and a measure, which stay as they are."""

    def __init__(self, modules, *, measure=MEASURE):
        wrong = book_wrong(modules)
        if wrong is not None:
            raise NoBook(wrong)
        if not is_whole(measure) or not 2 <= measure <= 10 ** 12:
            raise NoMeasure("a measure is a whole number from 2 to 10 ** 12")
        self._table = {module[0]: copied_module(module) for module in modules}
        self._measure = measure
        # What other files infer of the modules is kept here by names: so it is inferred once.
        self.seen = {}
        self.molds = {}
        self.flats = {}
        self.grounds = {}
        self.words = {}

    def modules(self):
        """The list of the modules."""
        return [copied_module(self._table[name]) for name in self._table]

    def module(self, name):
        """The module of this name."""
        return copied_module(self.held(name))

    def held(self, name):
        """The module of this name as it is kept: nothing may change it, nor tell its lists."""
        if name not in self._table:
            raise NoName(name)
        return self._table[name]

    def has(self, name):
        """Whether a thing is the name of one of the modules."""
        return isinstance(name, str) and name in self._table

    def measure(self):
        """The measure."""
        return self._measure

    def all_known(self):
        """The dicts in which other files keep what they infer of modules."""
        return [self.seen, self.molds, self.flats, self.grounds, self.words]

    def __eq__(self, other):
        return isinstance(other, Book) and self._table == other._table and self._measure == other._measure

    def __len__(self):
        return len(self._table)


def know_as(book, other):
    """Makes known of a book what is inferred of those modules of another one, of the same measure,
    that are just so in both, with all that they call."""
    leads = {module[0]: _called(module) for module in book.modules()}
    same = {}
    for name in order_of(leads)[1]:
        same[name] = other.has(name) and other.held(name) == book.held(name)
        same[name] = same[name] and all([same[below] for below in leads[name]])
        if same[name]:
            for mine, known in zip(book.all_known(), other.all_known()):
                if name in known:
                    mine[name] = known[name]


def called_first(book, name):
    """A module and all those that it calls, straight or by others, each behind those it calls, as kept."""
    reached = {name: book.held(name)}
    names = [name]
    leads = {}
    while names:
        at = names.pop()
        leads[at] = _called(reached[at])
        for below in leads[at]:
            if below not in reached:
                reached[below] = book.held(below)
                names.append(below)
    return [reached[at] for at in order_of(leads)[1]]
