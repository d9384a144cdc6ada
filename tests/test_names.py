"""Point [6]: names of things."""

import unittest

from cometorest.errors import NoName
from cometorest.kinds import Kind, Kinds
from cometorest.names import name_of, parts_of

NO_TEXTS = [None, True, False, 0, 1, [], ["box.0"], (), ("box", None, 0), {}, {"box.0": 1}, object()]

# Each name with its parts: kind, owner, number.
THINGS = [
    ("box.0", "box", None, 0),
    ("box.9", "box", None, 9),
    ("box.10", "box", None, 10),
    ("box.100", "box", None, 100),
    ("box.999999", "box", None, 999999),
    ("bag.123456", "bag", None, 123456),
    ("box.0.lid.12", "lid", "box.0", 12),
    ("box.10.lid.0", "lid", "box.10", 0),
    ("box.999999.lid.999999", "lid", "box.999999", 999999),
    ("box.0.lid.12.knob.3", "knob", "box.0.lid.12", 3),
    ("box.7.lid.7.knob.7", "knob", "box.7.lid.7", 7),
    ("box.0.foot.4", "foot", "box.0", 4),
]


def make_kinds():
    return Kinds([
        Kind("box", [("shut", ["no", "yes"])]),
        Kind("lid", [], "box"),
        Kind("knob", [("colour", ["red", "grey"])], "lid"),
        Kind("foot", [], "box"),
        Kind("bag", []),
    ])


class Names(unittest.TestCase):
    def setUp(self):
        self.kinds = make_kinds()

    def refuses_name(self, thing):
        with self.assertRaises(NoName, msg=thing) as caught:
            parts_of(self.kinds, thing)
        self.assertIs(caught.exception.__class__, NoName)

    def refuses_parts(self, kind, owner, number):
        with self.assertRaises(NoName, msg=(kind, owner, number)) as caught:
            name_of(self.kinds, kind, owner, number)
        self.assertIs(caught.exception.__class__, NoName)

    def test_parts_of_names(self):
        for name, kind, owner, number in THINGS:
            told = parts_of(self.kinds, name)
            self.assertEqual(told, (kind, owner, number))
            self.assertIs(told.__class__, tuple)
            self.assertIs(told[2].__class__, int)

    def test_names_of_parts(self):
        for name, kind, owner, number in THINGS:
            self.assertEqual(name_of(self.kinds, kind, owner, number), name)

    def test_there_and_back(self):
        for number in list(range(0, 1200)) + [9999, 10000, 99999, 100000, 999998, 999999]:
            for kind, owner in (("box", None), ("lid", "box.3"), ("knob", "box.0.lid.12")):
                name = name_of(self.kinds, kind, owner, number)
                self.assertEqual(parts_of(self.kinds, name), (kind, owner, number))

    def test_by_the_names_of_their_arguments(self):
        self.assertEqual(parts_of(name="box.1.lid.2", kinds=self.kinds), ("lid", "box.1", 2))
        self.assertEqual(name_of(number=2, owner="box.1", kind="lid", kinds=self.kinds), "box.1.lid.2")

    def test_what_is_no_text(self):
        for thing in NO_TEXTS + [self.kinds, self.kinds.of("box")]:
            self.refuses_name(thing)

    def test_numbers_written_otherwise(self):
        for number in (
            "", "00", "01", "007", "000000", "0000000", "1000000", "1234567", "-1", "-0", "+1", "1_0", "1e3",
            "0x1", "a", "1a", "a1", " 0", "0 ", "1 0", "0\n", "\n0", "\n", "True", "None", "/", ":", "9:",
        ):
            self.refuses_name("box." + number)
            self.refuses_name("box.0.lid." + number)
            self.refuses_name("box." + number + ".lid.0")

    def test_parts_too_few_or_too_many(self):
        for name in (
            "", ".", "..", "...", "box", "box.", ".0", "0", "0.box", "box.0.", ".box.0", "box..0", "box.0.0",
            "box.0.lid", "box.0.lid.", "box.0.lid.1.", "box.lid.0", "box.lid.0.1", "box.0.lid.1.2", "box.0..lid.1",
        ):
            self.refuses_name(name)

    def test_wrong_owners(self):
        for name in (
            "lid.0", "knob.0", "lid.0.knob.0", "bag.0.lid.0", "box.0.box.0", "box.0.bag.0", "bag.0.box.0",
            "box.0.knob.0", "box.0.foot.0.knob.0", "box.0.lid.0.lid.0", "box.0.lid.0.knob.0.knob.0",
            "box.0.lid.0.foot.0", "bag.0.box.0.lid.0", "lid.0.box.0", "knob.0.lid.0.box.0",
            "box.0.lid.0.box.0.lid.0",
        ):
            self.refuses_name(name)

    def test_strange_kinds_and_signs(self):
        for name in (
            "cup.0", "boxes.0", "bo.0", "Box.0", "BOX.0", "box1.0", "box.0.cup.0", "cup.0.lid.0", "box.0.Lid.0",
            " box.0", "box .0", "box. 0", "box.0 ", "box.0\n", "\nbox.0", "box\n.0", "box.0.lid.1\n",
            "box.0.lid .1", "box.0. lid.1", "box,0", "box-0", "box/0", "box:0", "box0", "box.0,lid.1",
            "box.0 lid.1", "box.0\nbox.1", "~", "None", "none",
        ):
            self.refuses_name(name)

    def test_a_very_long_name(self):
        self.refuses_name(".".join(["box.0"] * 5000))
        self.refuses_name("box." + "1" * 5000)

    def test_a_kind_that_is_none(self):
        for thing in NO_TEXTS + ["", "cup", "Box", "box ", "box\n", "box.0", "boxes", self.kinds.of("box")]:
            self.refuses_parts(thing, None, 0)
            self.refuses_parts(thing, "box.0", 0)

    def test_a_number_that_is_none(self):
        for thing in (
            -1, 1000000, 999999999999, -999999999999, True, False, None, "", "0", "1", [], [0], (), (0,), {}, {0: 0},
            object(),
        ):
            self.refuses_parts("box", None, thing)
            self.refuses_parts("lid", "box.0", thing)

    def test_an_owner_where_there_is_none(self):
        for owner in ("box.0", "bag.0", "box.0.lid.0", "", "None", 0, False, [], (), {}, object()):
            self.refuses_parts("box", owner, 0)

    def test_an_owner_that_is_missing_or_no_name(self):
        for owner in NO_TEXTS + ["", "box", "box.", "box.00", "box.0\n", " box.0", "cup.0", "box.1000000", "box.0.lid"]:
            self.refuses_parts("lid", owner, 0)

    def test_an_owner_of_another_kind(self):
        for kind, owner in (
            ("lid", "bag.0"), ("lid", "box.0.lid.0"), ("lid", "box.0.foot.0"), ("lid", "lid.0"),
            ("knob", "box.0"), ("knob", "box.0.foot.0"), ("knob", "box.0.lid.0.knob.0"), ("knob", "lid.0"),
        ):
            self.refuses_parts(kind, owner, 0)

    def test_a_refusal_changes_nothing(self):
        self.refuses_name("cup.0")
        self.refuses_parts("cup", None, 0)
        self.assertEqual(self.kinds.order(), make_kinds().order())
        self.assertEqual(parts_of(self.kinds, "box.0"), ("box", None, 0))


if __name__ == "__main__":
    unittest.main()
