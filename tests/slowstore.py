"""A slow store, straight from 43 to 46: all deeds that stand are done anew, from the begin on, whenever it is asked."""

from clockloom.books import Book, book_wrong
from clockloom.errors import LoomError, NoBack, NoBook, NoDeed, NoTitle
from clockloom.faces import face
from clockloom.teller import Run
from clockloom.things import is_name
from clockloom.trees import e_at

GETS = {"put": 1, "drop": 1, "begin": 2, "feed": 2, "over": 1, "end": 1}


def module_by(book, name, way):
    """The module of a book to which a way leads, None where it leads to none."""
    if name not in [module[0] for module in book.modules()]:
        return None
    module = book.module(name)
    for k in way:
        if k >= len(module[3]) or module[3][k][1][0] != "call":
            return None
        module = book.module(module[3][k][1][1])
    return module


def held_there(book, name, way, place):
    """What a place holds, by words; None where there is none."""
    module = module_by(book, name, way)
    try:
        e = e_at(module, place)
    except ValueError:
        return None
    return {"beats": "beats", "then": e[1][0] if e[0] == "then" else None}.get(e[0])


class Begins:
    """The modules and the runs that are there behind some deeds."""

    def __init__(self, modules, measure):
        self.names = list(modules)
        self.measure = measure
        self.runs = {}

    def book(self):
        return Book(self.names, measure=self.measure)

    def put(self, module):
        names = [there[0] for there in self.names]
        made = list(self.names)
        if isinstance(module, tuple) and module and module[0] in names:
            made[names.index(module[0])] = module
        else:
            made.append(module)
        self.come(made)

    def come(self, made):
        if book_wrong(made) is not None:
            raise NoBook(book_wrong(made))
        self.names = made

    def drop(self, name):
        self.book().module(name)
        self.come([module for module in self.names if module[0] != name])

    def run(self, title):
        if title not in self.runs:
            raise NoTitle()
        return self.runs[title]

    def begin(self, title, name):
        if not is_name(title) or title in self.runs:
            raise NoTitle()
        book = self.book()
        self.runs[title] = [book, name, Run(book, name)]

    def feed(self, title, ins):
        return self.run(title)[2].feed(ins)

    def end(self, title):
        self.run(title)
        del self.runs[title]

    def over(self, title):
        old, name, run = self.run(title)
        book = self.book()
        Run(book, name)
        carried = [line for line in run.state()
                   if held_there(book, name, line[0], line[1]) == held_there(old, name, line[0], line[1])]
        self.runs[title] = [book, name, Run(book, name, state=carried)]
        return [line[:2] for line in carried]

    def do(self, row):
        return getattr(self, row[0])(*row[1:])


class SlowStore:
    """A store that keeps nothing but its first modules, the deeds that stand and those taken back."""

    def __init__(self, modules, measure):
        self.first = (modules, measure)
        self.stand = []
        self.taken = []
        self.log = []
        self.settled = None

    def now(self):
        """What is there."""
        told = Begins(*self.first)
        for rows in self.stand:
            for row in rows:
                told.do(row)
        return told

    def deed(self, *row):
        now = self.now()
        try:
            told = now.do(row)
        except LoomError:
            self.log.append((row[0], "refused"))
            raise
        self.log.append((row[0], "done"))
        self.stand.append([row])
        self.taken = []
        return told

    def back(self):
        self.log.append(("back", "done" if self.stand else "refused"))
        if not self.stand:
            raise NoBack()
        self.taken.append(self.stand.pop())

    def again(self):
        self.log.append(("again", "done" if self.taken else "refused"))
        if not self.taken:
            raise NoBack()
        self.stand.append(self.taken.pop())

    def deeds(self, rows, keep):
        now, told, done = self.now(), [], []
        self.log.append(("deeds", "begun"))
        error = None
        for at, row in enumerate(rows):
            if not (isinstance(row, tuple) and row and isinstance(row[0], str) and GETS.get(row[0]) == len(row) - 1):
                error = NoDeed(at)
                break
            try:
                told.append(now.do(row))
            except LoomError as refused:
                self.log.append((row[0], "refused"))
                error = refused
                break
            self.log.append((row[0], "done"))
            done.append(row)
        if done and (keep or error is None):
            self.stand.append(done)
            self.taken = []
        self.log.append(("deeds", "refused" if error else "done"))
        if error:
            raise error
        return told

    def faces(self):
        book = self.now().book()
        told = []
        for module in book.modules():
            try:
                told.append((module[0], face(book, module[0])))
            except ValueError:
                told.append((module[0], None))
        return told

    def settle(self):
        modules, faces = self.now().names, dict(self.faces())
        old_modules, old_faces = self.settled or ({}, {})
        calls = {module[0]: [e[1] for _, e in module[3] if e[0] == "call"] for module in modules}
        anew = [module[0] for module in modules if old_modules.get(module[0]) != module
                or any(m not in old_faces or old_faces[m] != faces[m] for m in calls[module[0]])]
        told = []
        while len(told) < len(anew):
            told.append([x for x in anew if x not in told and all(m in told or m not in anew for m in calls[x])][0])
        self.settled = ({module[0]: module for module in modules}, faces)
        return told
