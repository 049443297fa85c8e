"""What a desk is asked, answered by texts."""

from clockloom.clocks import clocks
from clockloom.faces import face
from clockloom.flat import flat
from clockloom.fusing import gathered, if_count
from clockloom.kinds import kinds, kinds_judged
from clockloom.lines import clocks_judged
from clockloom.looms import woven
from clockloom.papertexts import paper_text
from clockloom.parts import parts
from clockloom.texts import module_text
from clockloom.wants import order, order_judged, wants


def _told_of(book, word, name):
    """What the function of a word tells of a module."""
    if word == "kinds":
        return kinds(book, name)
    if word == "clocks":
        return clocks(book, name)
    if word == "wants":
        return wants(book, name)
    if word == "order":
        return order(book, name)
    if word == "face":
        return face(book, name)
    if word == "parts":
        return parts(book, name)
    told = flat(book, name)
    return told if word == "flat" else woven(told, measure=book.measure())


def asked_of_module(book, word, name):
    """What is asked of a module."""
    if word == "show":
        return module_text(book.module(name))
    if word == "ifs":
        return str(if_count(gathered(flat(book, name), measure=book.measure())))
    return paper_text(_told_of(book, word, name))


def asked_of_run(run, word):
    """What is asked of a run."""
    if word == "beats":
        return str(len(run))
    return paper_text(run.flows() if word == "flows" else run.state())


def asked_of_store(store, word):
    """What is asked of a store."""
    if word == "names":
        return " ".join([module[0] for module in store.modules()])
    if word == "titles":
        return " ".join(store.titles())
    if word == "settle":
        return paper_text(store.settle())
    return paper_text(store.faces() if word == "faces" else store.log())


def judged(book, word, name, paper):
    """Whether the judge of a word lets a paper by, and else what it tells."""
    if word == "kinds":
        wrong = kinds_judged(book, name, paper)
    elif word == "clocks":
        wrong = clocks_judged(book, name, paper)
    else:
        wrong = order_judged(book, name, paper)
    return "yes" if wrong is None else "no " + paper_text(wrong)
