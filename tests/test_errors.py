"""The refusals."""

import unittest

from clockloom import errors
from clockloom.errors import LoomError, NoFace, NoText

PLAIN = (
    "NoBack", "NoDrive", "NoLane", "NoLine", "NoMeasure", "NoPart", "NoTitle", "NoWait", "NoWay",
    "NoWord", "TooDeep", "TooLong",
)
BEARING = {
    "Dry": "lane", "NoBeat": "name", "NoBook": "wrong", "NoDeed": "at", "NoFace": "paper",
    "NoFlow": "name", "NoLoop": "wrong", "NoModule": "wrong", "NoName": "name", "NoNet": "wrong",
    "NoPlace": "place", "NoRoom": "lane", "NoState": "at", "Over": "lane", "Twice": "name",
}
ALL = PLAIN + tuple(BEARING) + ("NoText",)
WORTHS = (None, True, 3, "abc", ("name", "x"), ("ring", ["a", "b"]), [1, [2]])


def made(name, worth):
    if name in PLAIN:
        return getattr(errors, name)()
    if name == "NoText":
        return NoText(worth, worth)
    return getattr(errors, name)(worth)


class Errors(unittest.TestCase):
    def test_all_are_there_and_no_others(self):
        found = [name for name, thing in vars(errors).items() if isinstance(thing, type)]
        self.assertEqual(sorted(found), sorted(ALL + ("LoomError",)))

    def test_straight_under_loom_error(self):
        self.assertEqual(LoomError.__bases__, (ValueError,))
        for name in ALL:
            self.assertEqual(getattr(errors, name).__bases__, (LoomError,), name)

    def test_each_is_of_its_own_class_alone(self):
        for name in ALL:
            error = made(name, 1)
            self.assertIsInstance(error, LoomError)
            self.assertIsInstance(error, ValueError)
            for other in ALL:
                self.assertEqual(isinstance(error, getattr(errors, other)), name == other)

    def test_each_is_raised_and_caught(self):
        for name in ALL:
            with self.assertRaises(getattr(errors, name)):
                raise made(name, 1)

    def test_plain_ones_of_nothing_or_of_a_text(self):
        for name in PLAIN:
            self.assertEqual(vars(getattr(errors, name)()), {})
            self.assertEqual(str(getattr(errors, name)("why")), "why")

    def test_bearing_ones_by_place_and_by_name(self):
        for name, field in BEARING.items():
            kind = getattr(errors, name)
            self.assertEqual(getattr(kind("v"), field), "v")
            self.assertEqual(getattr(kind(**{field: "v"}), field), "v")
            self.assertEqual(vars(kind("v")), {field: "v"})
            with self.assertRaises(TypeError):
                kind()

    def test_no_text_by_places_and_by_names(self):
        for error in (NoText(3, 4), NoText(row=3, at=4), NoText(at=4, row=3), NoText(3, at=4)):
            self.assertEqual((error.row, error.at), (3, 4))

    def test_each_bears_its_own_while_others_are_made(self):
        held = [(name, worth, made(name, worth)) for name in BEARING for worth in WORTHS]
        for name, worth, error in held:
            self.assertEqual(repr(getattr(error, BEARING[name])), repr(worth))

    def test_none_keeps_a_list_that_it_was_made_of(self):
        for name, field in list(BEARING.items()) + [("NoText", "row"), ("NoText", "at")]:
            worth = [1, ({"a": [2]}, [3])]
            error = made(name, worth)
            worth[1][0]["a"].append(4)
            worth[1][1].append(4)
            worth.append(4)
            self.assertEqual(getattr(error, field), [1, ({"a": [2]}, [3])], name)

    def test_what_it_was_made_of_may_be_changed_behind(self):
        paper = ("ring", ["a", "b"])
        error = NoFace(paper)
        paper[1].append("c")
        self.assertEqual(error.paper, ("ring", ["a", "b"]))
        error.paper[1].clear()
        self.assertEqual(paper, ("ring", ["a", "b", "c"]))


if __name__ == "__main__":
    unittest.main()
