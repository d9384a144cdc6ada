"""Points [2], [13]: deeds, and what makes none."""

import inspect
import unittest

from cometorest.deeds import Deed, Make, Set, Take
from cometorest.errors import NoDeed
from tests.strange import NO_NAMES, NO_TEXTS, NO_WHOLES

FIELDS = {
    Make: ["hand", "number", "wishing", "name", "owner_mark", "state"],
    Set: ["hand", "number", "wishing", "name", "mark", "owner_mark", "field", "value"],
    Take: ["hand", "number", "wishing", "name", "mark", "owner_mark"],
}
RIGHT = {
    "hand": "anna", "number": 3, "wishing": 2, "name": "box.0.lid.12", "mark": 5, "owner_mark": 4,
    "state": ("red", "no"), "field": "shut", "value": "yes",
}
NO_THINGS = NO_TEXTS + [
    "", ".", "box", "box.", ".0", "box.0.", ".box.0", "box..0", "box.0.lid", "box.0.lid.", "box.0.0", "box.lid.0",
    "0.box", "0", "box.00", "box.01", "box.0.lid.01", "box.1234567", "box.0.lid.1234567", "box.-1", "box.+1", "box.a",
    "Box.0", "box.0.Lid.1", "ninechars.0", "box.0.ninechars.0", "box.0 ", " box.0", "box.0\n", "box 0", "box.0,lid.0",
    "box.0.lid.1.", "box.1_0", "b1.0",
]
NO_MARKS = NO_WHOLES + [0, -1, -7]


def handed(made, **others):
    return {name: others.get(name, RIGHT[name]) for name in FIELDS[made]}


class Deeds(unittest.TestCase):
    def makes(self, made, **others):
        named = handed(made, **others)
        deed = made(**named)
        self.assertEqual(deed.parts(), tuple(named.values()))
        return deed

    def refuses(self, made, **others):
        with self.assertRaises(NoDeed, msg=(made, others)) as caught:
            made(**handed(made, **others))
        self.assertIs(caught.exception.__class__, NoDeed)

    def test_fields_and_parts_in_their_order(self):
        for made, names in FIELDS.items():
            deed = made(*[RIGHT[name] for name in names])
            self.assertIsInstance(deed, Deed)
            self.assertEqual(list(vars(deed)), names)
            self.assertEqual(vars(deed), {name: RIGHT[name] for name in names})
            told = deed.parts()
            self.assertIs(told.__class__, tuple)
            self.assertEqual(told, tuple(RIGHT[name] for name in names))

    def test_by_the_names_of_their_arguments(self):
        for made, names in FIELDS.items():
            deed = made(**{name: RIGHT[name] for name in reversed(names)})
            self.assertEqual(deed.parts(), tuple(RIGHT[name] for name in names))
            self.assertEqual(list(inspect.signature(made).parameters), names)

    def test_no_deed_stands_under_another(self):
        made = {name: sort(**handed(sort)) for name, sort in (("make", Make), ("set", Set), ("take", Take))}
        self.assertEqual([isinstance(made["make"], sort) for sort in (Make, Set, Take)], [True, False, False])
        self.assertEqual([isinstance(made["set"], sort) for sort in (Make, Set, Take)], [False, True, False])
        self.assertEqual([isinstance(made["take"], sort) for sort in (Make, Set, Take)], [False, False, True])

    def test_a_hand_that_is_none(self):
        for made in FIELDS:
            for thing in NO_NAMES:
                self.refuses(made, hand=thing)
            for thing in ("a", "abcdefgh", "make"):
                self.makes(made, hand=thing)

    def test_a_number_that_is_none(self):
        for made in FIELDS:
            for thing in NO_MARKS:
                self.refuses(made, number=thing)
            for thing in (1, 2, 10 ** 12):
                self.makes(made, number=thing)

    def test_a_wishing_that_is_none(self):
        for made in FIELDS:
            for thing in NO_WHOLES + [-1, -7]:
                self.refuses(made, wishing=thing)
            for thing in (0, 1, 10 ** 12):
                self.makes(made, wishing=thing)

    def test_a_mark_that_is_none(self):
        for made in (Set, Take):
            for thing in NO_MARKS:
                self.refuses(made, mark=thing)
                self.refuses(made, mark=thing, name="box.0", owner_mark=None)
            for thing in (1, 2, 10 ** 12):
                self.makes(made, mark=thing)

    def test_an_owners_mark_that_is_none(self):
        for made in FIELDS:
            for thing in NO_MARKS:
                for name in ("box.0.lid.12", "box.0.lid.12.knob.3"):
                    self.refuses(made, owner_mark=thing, name=name)
            for thing in (1, 2, 10 ** 12):
                self.makes(made, owner_mark=thing)

    def test_an_owners_mark_where_there_is_no_owner(self):
        for made in FIELDS:
            self.makes(made, name="box.0", owner_mark=None)
            for thing in [thing for thing in NO_MARKS if thing is not None] + [1, 2, 10 ** 12]:
                self.refuses(made, name="box.0", owner_mark=thing)

    def test_names_of_a_things_form(self):
        for made in FIELDS:
            for name in ("a.0", "box.0", "box.9", "box.10", "box.999999", "abcdefgh.123456", "is.7"):
                self.makes(made, name=name, owner_mark=None)
            for name in ("box.0.lid.0", "box.0.box.0", "strange.1.other.2.third.3", "a.0.b.0.c.0.d.0.e.0.f.0",
                         "box.999999.lid.999999"):
                self.makes(made, name=name, owner_mark=1)

    def test_what_is_no_name_of_a_thing(self):
        for made in FIELDS:
            for thing in NO_THINGS:
                self.refuses(made, name=thing)
                self.refuses(made, name=thing, owner_mark=None)

    def test_a_state_that_is_none(self):
        no_tuples = [thing for thing in NO_TEXTS if not isinstance(thing, tuple)]
        for thing in no_tuples + ["", "red", ["red"], ["red", "no"], {"red": "no"}]:
            self.refuses(Make, state=thing)
        for thing in NO_NAMES:
            self.refuses(Make, state=(thing,))
            self.refuses(Make, state=("red", thing))
            self.refuses(Make, state=(thing, "red"))

    def test_states(self):
        for thing in ((), ("red",), ("red", "red"), ("a", "b", "c", "d", "e")):
            self.assertEqual(self.makes(Make, state=thing).state, thing)

    def test_a_field_or_value_that_is_none(self):
        for thing in NO_NAMES:
            self.refuses(Set, field=thing)
            self.refuses(Set, value=thing)
            self.refuses(Set, field=thing, value=thing)
        for thing in ("a", "abcdefgh", "set"):
            self.makes(Set, field=thing)
            self.makes(Set, value=thing)


if __name__ == "__main__":
    unittest.main()
