"""Points [2], [7] to [10]: wishes, what is wished of a name, and what fits it."""

import copy
import inspect
import itertools
import unittest

from cometorest.errors import NoName, NoWish, TooMany
from cometorest.kinds import Kind, Kinds
from cometorest.wishes import Wishes, fits
from tests.strange import NO_LISTS, NO_NAMES, NO_TEXTS, NO_WHOLES, Alike


def make_kinds():
    return Kinds([
        Kind("knob", [("colour", ["red", "grey"])], "lid"),
        Kind("lid", [("colour", ["red", "grey"]), ("shut", ["no", "yes"])], "box"),
        Kind("box", [("size", ["s", "m", "l"])]),
        Kind("foot", [], "box"),
        Kind("bag", []),
    ])


KINDS = make_kinds()


def refuses(test, refusal, rows, kinds=KINDS):
    with test.assertRaises(refusal, msg=rows) as caught:
        Wishes(kinds, rows)
    test.assertIs(caught.exception.__class__, refusal)


class Rows(unittest.TestCase):
    def test_no_rows(self):
        wishes = Wishes(KINDS, [])
        self.assertEqual(wishes.rows, [])
        self.assertEqual(wishes.names(), [])
        self.assertIsNone(wishes.wished("box.0"))

    def test_told_as_handed_in(self):
        rows = [
            ("lid", 2, [("shut", "yes"), ("colour", "grey")]),
            ("box", 1, []),
            ("lid", 1, [("shut", "no")]),
            ("bag", 3, []),
            ("lid", 1, [("colour", "red"), ("shut", "yes")]),
        ]
        wishes = Wishes(KINDS, copy.deepcopy(rows))
        self.assertEqual(wishes.rows, rows)
        self.assertIs(wishes.rows.__class__, list)
        for row in wishes.rows:
            self.assertIs(row.__class__, tuple)
            self.assertIs(row[2].__class__, list)
            for pair in row[2]:
                self.assertIs(pair.__class__, tuple)

    def test_by_the_names_of_its_arguments(self):
        wishes = Wishes(rows=[("bag", 1, [])], kinds=KINDS)
        self.assertEqual(wishes.wished(name="bag.0"), ())
        self.assertEqual(list(inspect.signature(Wishes).parameters), ["kinds", "rows"])
        self.assertIs(fits(state=(), wished=()), True)

    def test_lists_changed_behind_change_nothing(self):
        pairs = [("size", "m")]
        rows = [("box", 1, pairs)]
        wishes = Wishes(KINDS, rows)
        pairs.append(("size", "l"))
        pairs[0] = ("size", "s")
        rows.append(("bag", 1, []))
        self.assertEqual(wishes.rows, [("box", 1, [("size", "m")])])
        self.assertEqual(wishes.names(), ["box.0"])
        self.assertEqual(wishes.wished("box.0"), ("m",))

    def test_two_of_one_list_have_lists_of_their_own(self):
        rows = [("box", 1, [("size", "m")])]
        one = Wishes(KINDS, rows)
        other = Wishes(KINDS, one.rows)
        for left, right in itertools.combinations([rows, one.rows, other.rows], 2):
            self.assertEqual(left, right)
            self.assertIsNot(left, right)
            self.assertIsNot(left[0][2], right[0][2])

    def test_what_is_handed_in_is_not_changed(self):
        for rows, refusal in (
            ([("lid", 2, [("shut", "yes"), ("colour", "grey")]), ("box", 3, [])], None),
            ([("lid", 2, [("shut", "yes")]), ("box", 0, [])], NoWish),
            ([("box", 60, [("size", "l")]), ("bag", 1, [])], TooMany),
        ):
            ahead = copy.deepcopy(rows)
            if refusal is None:
                Wishes(KINDS, rows)
            else:
                refuses(self, refusal, rows)
            self.assertEqual(rows, ahead)
        self.assertEqual(KINDS.order(), make_kinds().order())

    def test_rows_that_are_no_list(self):
        row = ("bag", 1, [])
        for thing in NO_LISTS + [row, (row,), {"bag": row}, Wishes(KINDS, [row])]:
            refuses(self, NoWish, thing)

    def test_kinds_that_are_none(self):
        for thing in (None, [], "box", [Kind("box", [])], Kind("box", [])):
            refuses(self, NoWish, [], thing)

    def test_a_row_of_another_form(self):
        right = ("bag", 1, [])
        things = NO_TEXTS + [
            "bag", "abc", ["bag", 1, []], {"bag": 1, "b": 2, "c": 3}, ("bag",), ("bag", 1), ("bag", []),
            ("bag", 1, [], []), (1, "bag", []), ("bag", [], 1), ([], 1, "bag"), (("bag", 1, []),), Wishes(KINDS, []),
        ]
        for thing in things:
            refuses(self, NoWish, [thing])
            refuses(self, NoWish, [right, thing])
            refuses(self, NoWish, [thing, right])

    def test_a_strange_kind_or_what_is_no_name(self):
        for thing in NO_NAMES + ["cup", "boxes", "bo", "size", "m", "box.0", Kind("bag", [])]:
            refuses(self, NoWish, [(thing, 1, [])])
            refuses(self, NoWish, [("bag", 1, []), (thing, 1, [])])

    def test_many_that_is_none(self):
        for thing in NO_WHOLES + [0, -1, -60, 61, 62, 600, 10 ** 11]:
            refuses(self, NoWish, [("bag", thing, [])])
            refuses(self, NoWish, [("bag", 1, []), ("foot", thing, [])])

    def test_many_from_one_to_sixty(self):
        for many in (1, 2, 59, 60):
            wishes = Wishes(KINDS, [("bag", many, [])])
            self.assertEqual(wishes.rows, [("bag", many, [])])
            self.assertEqual(len(wishes.names()), many)

    def test_pairs_that_are_no_list(self):
        for thing in NO_LISTS + [("size", "m"), (("size", "m"),), {"size": "m"}]:
            refuses(self, NoWish, [("box", 1, thing)])

    def test_a_pair_of_another_form(self):
        things = NO_TEXTS + ["size", "sm", ["size", "m"], {"size": "m"}, ("size",), ("size", "m", "l"),
                             ("size", ["m"]), ("size", ("m",)), (("size", "m"),), ("m", "size")]
        for thing in things:
            refuses(self, NoWish, [("box", 1, [thing])])
            refuses(self, NoWish, [("lid", 1, [("shut", "no"), thing])])
            refuses(self, NoWish, [("lid", 1, [thing, ("shut", "no")])])

    def test_a_strange_field_or_that_of_another_kind(self):
        for thing in NO_NAMES + ["weight", "siz", "box", "m", "shut", "colour"]:
            refuses(self, NoWish, [("box", 1, [(thing, "m")])])
            refuses(self, NoWish, [("box", 1, [(thing, "no")])])
        refuses(self, NoWish, [("bag", 1, [("size", "m")])])
        refuses(self, NoWish, [("lid", 1, [("size", "m")])])
        refuses(self, NoWish, [("knob", 1, [("shut", "no")])])

    def test_a_field_twice(self):
        refuses(self, NoWish, [("box", 1, [("size", "m"), ("size", "l")])])
        refuses(self, NoWish, [("box", 1, [("size", "m"), ("size", "m")])])
        refuses(self, NoWish, [("lid", 1, [("shut", "no"), ("colour", "red"), ("shut", "no")])])

    def test_a_value_that_is_none_of_the_field(self):
        for thing in NO_NAMES + ["xl", "size", "red", "no"]:
            refuses(self, NoWish, [("box", 1, [("size", thing)])])
        refuses(self, NoWish, [("lid", 1, [("shut", "red")])])
        refuses(self, NoWish, [("lid", 1, [("colour", "no"), ("shut", "red")])])

    def test_what_is_equal_to_anything_is_none(self):
        for row in ((Alike(), 1, []), ("box", Alike(), []), ("box", 1, Alike()), ("box", 1, [(Alike(), "m")]),
                    ("box", 1, [("size", Alike())]), ("box", 1, [Alike()])):
            refuses(self, NoWish, [row])


class TooManyWished(unittest.TestCase):
    def test_sixty(self):
        for rows in (
            [("bag", 60, [])],
            [("bag", 59, []), ("box", 1, [])],
            [("bag", 30, []), ("bag", 30, [])],
            [("box", 30, []), ("foot", 1, [])],
            [("foot", 1, []), ("box", 15, []), ("box", 15, [("size", "l")])],
            [("box", 1, []), ("foot", 59, [])],
            [("box", 4, []), ("lid", 2, []), ("knob", 6, [])],
            [("bag", 1, [])] * 60,
        ):
            self.assertEqual(len(Wishes(KINDS, rows).names()), 60, rows)

    def test_more_than_sixty(self):
        for rows in (
            [("bag", 60, []), ("bag", 1, [])],
            [("bag", 60, []), ("box", 1, [])],
            [("bag", 1, [])] * 61,
            [("box", 30, []), ("foot", 1, []), ("bag", 1, [])],
            [("box", 1, []), ("foot", 60, [])],
            [("box", 1, []), ("foot", 30, []), ("lid", 30, [])],
            [("box", 31, []), ("foot", 1, [])],
            [("box", 4, []), ("lid", 2, []), ("knob", 6, []), ("bag", 1, [])],
            [("box", 1, []), ("lid", 1, []), ("knob", 59, [])],
            [("knob", 60, []), ("lid", 60, []), ("box", 60, [])],
        ):
            refuses(self, TooMany, rows)

    def test_what_unwished_things_own_is_not_counted(self):
        for rows in (
            [("foot", 60, []), ("lid", 60, []), ("lid", 60, []), ("knob", 60, [])],
            [("bag", 60, []), ("foot", 60, [])],
            [("box", 1, []), ("knob", 60, []), ("knob", 60, [])],
        ):
            wishes = Wishes(KINDS, rows)
            self.assertEqual(wishes.rows, rows)
            self.assertLessEqual(len(wishes.names()), 60)

    def test_a_great_many_are_counted_not_built(self):
        row = [Kind("a", []), Kind("b", [], "a"), Kind("c", [], "b"), Kind("d", [], "c"), Kind("e", [], "d")]
        refuses(self, TooMany, [(name, 60, []) for name in "abcde"], Kinds(row))

    def test_no_wish_comes_ahead(self):
        for wrong in (("cup", 1, []), ("bag", 61, []), ("bag", True, []), ("bag", 1, [("size", "m")]), None):
            refuses(self, NoWish, [("bag", 60, []), ("bag", 60, []), wrong])
            refuses(self, NoWish, [wrong, ("bag", 60, []), ("bag", 60, [])])


class Wished(unittest.TestCase):
    def test_fields_in_the_kinds_order(self):
        for pairs, wished in (
            ([], (None, None)),
            ([("colour", "grey")], ("grey", None)),
            ([("shut", "yes")], (None, "yes")),
            ([("colour", "grey"), ("shut", "yes")], ("grey", "yes")),
            ([("shut", "no"), ("colour", "red")], ("red", "no")),
        ):
            told = Wishes(KINDS, [("box", 1, []), ("lid", 1, pairs)]).wished("box.0.lid.0")
            self.assertEqual(told, wished)
            self.assertIs(told.__class__, tuple)

    def test_a_kind_without_fields(self):
        wishes = Wishes(KINDS, [("bag", 2, [])])
        self.assertEqual(wishes.wished("bag.0"), ())
        self.assertEqual(wishes.wished("bag.1"), ())
        self.assertIsNone(wishes.wished("bag.2"))

    def test_rows_of_a_kind_in_their_order(self):
        wishes = Wishes(KINDS, [
            ("box", 2, [("size", "m")]), ("bag", 1, []), ("box", 1, []), ("box", 1, [("size", "s")]),
        ])
        self.assertEqual([wishes.wished(f"box.{number}") for number in range(6)],
                         [("m",), ("m",), (None,), ("s",), None, None])
        self.assertIsNone(wishes.wished("bag.1"))
        self.assertIsNone(wishes.wished("box.999999"))
        self.assertEqual(wishes.names(), ["bag.0", "box.0", "box.1", "box.2", "box.3"])

    def test_rows_are_not_sorted_by_what_they_say(self):
        wishes = Wishes(KINDS, [("box", 1, [("size", "l")]), ("box", 3, []), ("box", 1, [("size", "s")])])
        self.assertEqual([wishes.wished(f"box.{number}") for number in range(5)],
                         [("l",), (None,), (None,), (None,), ("s",)])

    def test_of_each_wished_owner(self):
        wishes = Wishes(KINDS, [
            ("knob", 1, [("colour", "grey")]), ("lid", 1, [("shut", "no")]), ("box", 1, [("size", "m")]),
            ("lid", 1, [("shut", "yes")]), ("box", 1, []), ("knob", 1, []),
        ])
        for box in ("box.0", "box.1"):
            self.assertEqual(wishes.wished(f"{box}.lid.0"), (None, "no"))
            self.assertEqual(wishes.wished(f"{box}.lid.1"), (None, "yes"))
            self.assertIsNone(wishes.wished(f"{box}.lid.2"))
            for lid in ("lid.0", "lid.1"):
                self.assertEqual(wishes.wished(f"{box}.{lid}.knob.0"), ("grey",))
                self.assertEqual(wishes.wished(f"{box}.{lid}.knob.1"), (None,))
                self.assertIsNone(wishes.wished(f"{box}.{lid}.knob.2"))
        self.assertEqual(len(wishes.names()), 2 + 4 + 8)

    def test_of_unwished_owners_nothing_is_wished(self):
        wishes = Wishes(KINDS, [("lid", 2, []), ("knob", 1, []), ("box", 1, [])])
        for name in ("box.1", "box.1.lid.0", "box.1.lid.1", "box.0.lid.2.knob.0", "box.1.lid.0.knob.0",
                     "box.0.foot.0", "box.0.lid.0.knob.1"):
            self.assertIsNone(wishes.wished(name), name)
        self.assertEqual(wishes.wished("box.0.lid.1.knob.0"), (None,))

    def test_an_owned_kind_whose_owner_is_not_wished(self):
        wishes = Wishes(KINDS, [("lid", 2, []), ("knob", 1, []), ("bag", 1, [])])
        self.assertEqual(wishes.names(), ["bag.0"])
        self.assertIsNone(wishes.wished("box.0.lid.0"))
        self.assertIsNone(wishes.wished("box.0.lid.0.knob.0"))

    def test_an_owner_in_the_middle_is_not_wished(self):
        wishes = Wishes(KINDS, [("box", 1, []), ("knob", 1, [])])
        self.assertEqual(wishes.names(), ["box.0"])
        self.assertIsNone(wishes.wished("box.0.lid.0.knob.0"))

    def test_names_are_sorted_by_signs(self):
        wishes = Wishes(KINDS, [("foot", 1, []), ("box", 12, []), ("bag", 2, [])])
        boxes = ["box.0", "box.1", "box.10", "box.11", "box.2", "box.3", "box.4", "box.5", "box.6", "box.7", "box.8",
                 "box.9"]
        expected = ["bag.0", "bag.1"]
        for box in boxes:
            expected += [box, box + ".foot.0"]
        self.assertEqual(wishes.names(), expected)
        self.assertEqual(wishes.names(), sorted(expected))

    def test_names_are_a_new_list_each_time(self):
        wishes = Wishes(KINDS, [("bag", 2, [])])
        told = wishes.names()
        self.assertIs(told.__class__, list)
        told.append("bag.7")
        told.pop(0)
        self.assertEqual(wishes.names(), ["bag.0", "bag.1"])
        self.assertIsNone(wishes.wished("bag.7"))
        self.assertEqual(wishes.wished("bag.0"), ())

    def test_what_is_no_name_of_a_thing(self):
        wishes = Wishes(KINDS, [("box", 2, []), ("lid", 1, [])])
        for thing in NO_TEXTS + [
            "", "box", "box.", "box.00", "box.01", "box.1234567", "Box.0", "cup.0", "lid.0", "bag.0.lid.0",
            "box.0.lid", "box.0.lid.0.foot.0", "box.0.box.1", "box.-1", "box.0 ", "box.0.", ".box.0", "box.0\n",
        ]:
            with self.assertRaises(NoName, msg=thing) as caught:
                wishes.wished(thing)
            self.assertIs(caught.exception.__class__, NoName)
        self.assertEqual(wishes.names(), ["box.0", "box.0.lid.0", "box.1", "box.1.lid.0"])


class Fits(unittest.TestCase):
    def test_nothing_wished_and_nothing_there(self):
        self.assertIs(fits(None, None), True)

    def test_nothing_wished_and_something_there(self):
        for state in ((), ("red",), ("red", "no")):
            self.assertIs(fits(None, state), False)

    def test_something_wished_and_nothing_there(self):
        for wished in ((), (None,), ("red",), (None, None)):
            self.assertIs(fits(wished, None), False)

    def test_without_fields(self):
        self.assertIs(fits((), ()), True)

    def test_each_value_that_is_cared_for(self):
        values = ["a", "b"]
        for many in (1, 2, 3):
            for wished in itertools.product([None] + values, repeat=many):
                for state in itertools.product(values, repeat=many):
                    right = not any(w is not None and w != s for w, s in zip(wished, state))
                    self.assertIs(fits(wished, state), right, (wished, state))

    def test_the_places_count(self):
        self.assertIs(fits(("a", "b"), ("b", "a")), False)
        self.assertIs(fits((None, "b"), ("b", "a")), False)
        self.assertIs(fits((None, "a"), ("b", "a")), True)


if __name__ == "__main__":
    unittest.main()
