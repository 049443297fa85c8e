"""What a store keeps, and the changes that its deeds make, each of which may be taken back."""

from clockloom.books import Book, know_as
from clockloom.errors import NoTitle
from clockloom.teller import Run
from clockloom.things import is_name


class Begun:
    """A run that was begun: the name of its module, and as the how manyth it came."""

    def __init__(self, name, came, run):
        self.name = name
        self.came = came
        self.run = run


class Kept:
    """What a store keeps: its modules as a Book, and each Begun by its title."""

    def __init__(self, book):
        self.book = book
        self.runs = {}
        self.came = 0

    def begun(self, title):
        """The Begun of a title, refused where there is none."""
        if not is_name(title) or title not in self.runs:
            raise NoTitle("there is no such run")
        return self.runs[title]


class BookChange:
    """Other modules."""

    def __init__(self, ahead, behind):
        self._ahead = ahead
        self._behind = behind

    def take_back(self, kept):
        """Takes the change back."""
        kept.book = self._ahead

    def make_again(self, kept):
        """Makes the change again."""
        kept.book = self._behind


class RunChange:
    """Another run by a title, or none where there was one, or one where there was none."""

    def __init__(self, title, ahead, behind):
        self._title = title
        self._ahead = ahead
        self._behind = behind

    def _lay(self, kept, begun):
        if begun is None:
            del kept.runs[self._title]
        else:
            kept.runs[self._title] = begun

    def take_back(self, kept):
        """Takes the change back."""
        self._lay(kept, self._ahead)

    def make_again(self, kept):
        """Makes the change again."""
        self._lay(kept, self._behind)


class Fed:
    """A beat that a run has made."""

    def __init__(self, title, ins):
        self._title = title
        self._ins = {x: ins[x] for x in ins}

    def take_back(self, kept):
        """Takes the beat back."""
        kept.runs[self._title].run.back()

    def make_again(self, kept):
        """Makes the beat again."""
        kept.runs[self._title].run.feed(self._ins)


class Several:
    """Changes made one behind the other."""

    def __init__(self, changes):
        self._changes = changes

    def take_back(self, kept):
        """Takes all of them back, the last one first."""
        for change in reversed(self._changes):
            change.take_back(kept)

    def make_again(self, kept):
        """Makes all of them again."""
        for change in self._changes:
            change.make_again(kept)


def _to_book(kept, modules):
    """The change that other modules come, refused where they make no book."""
    book = Book(modules, measure=kept.book.measure())
    know_as(book, kept.book)
    return BookChange(kept.book, book)


def _put(kept, things):
    module = things[0]
    modules = kept.book.modules()
    names = [there[0] for there in modules]
    if isinstance(module, tuple) and module and isinstance(module[0], str) and module[0] in names:
        modules[names.index(module[0])] = module
    else:
        modules.append(module)
    return (None, _to_book(kept, modules))


def _drop(kept, things):
    name = kept.book.module(things[0])[0]
    return (None, _to_book(kept, [module for module in kept.book.modules() if module[0] != name]))


def _begin(kept, things):
    title, name = things
    if not is_name(title) or title in kept.runs:
        raise NoTitle("this is no title, or there is such a run")
    begun = Begun(name, kept.came, Run(kept.book, name))
    kept.came += 1
    return (None, RunChange(title, None, begun))


def _over(kept, things):
    title = things[0]
    begun = kept.begun(title)
    run, carried = begun.run.gone_over(kept.book)
    return (carried, RunChange(title, begun, Begun(begun.name, begun.came, run)))


def _end(kept, things):
    title = things[0]
    return (None, RunChange(title, kept.begun(title), None))


# How many things each deed gets, and what tells (what it tells, its change) of them.
COUNTS = {"put": 1, "drop": 1, "begin": 2, "feed": 2, "over": 1, "end": 1}
DEEDS = {"put": _put, "drop": _drop, "begin": _begin, "over": _over, "end": _end}


def done(kept, word, things):
    """Does a deed, and tells what it tells and its change; what is refused changes nothing."""
    if word == "feed":
        title, ins = things
        return (kept.begun(title).run.feed(ins), Fed(title, ins))
    deed = DEEDS[word]
    told, change = deed(kept, things)
    change.make_again(kept)
    return (told, change)
