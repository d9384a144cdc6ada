"""Points [2] to [5]: names, whole numbers, kinds and their states."""

import copy
import inspect
import itertools
import unittest

from cometorest.errors import NoKind, NoName, TooMany
from cometorest.kinds import Kind, Kinds, first_state, is_name, is_whole, states

NO_TEXTS = [None, True, False, 0, 1, -1, [], ["box"], (), ("box",), {}, {"box": 1}, object(), Kind("box", [])]
NO_NAMES = NO_TEXTS + [
    "", "ninechars", "abcdefghi", "Box", "boX", "BOX", "box1", "1", "0", " ", "box ", " box", "b x", "box.0",
    ".", "box.", "box\n", "\nbox", "\n", "b_x", "b-x", "`", "{", "@", "[", "~",
]
EIGHT = list("abcdefgh")


def lid():
    return Kind("lid", [("colour", ["red", "grey"]), ("shut", ["no", "yes"])], "box")


class Signs(unittest.TestCase):
    def test_names(self):
        for thing in ("a", "z", "az", "box", "abcdefgh", "zzzzzzzz", "is", "none"):
            self.assertIs(is_name(thing), True, thing)

    def test_each_small_letter_is_a_name(self):
        for code in range(32, 127):
            sign = chr(code)
            self.assertIs(is_name(sign), sign in "abcdefghijklmnopqrstuvwxyz", sign)

    def test_no_names(self):
        for thing in NO_NAMES:
            self.assertIs(is_name(thing), False, thing)

    def test_wholes(self):
        for thing in (0, 1, -1, 60, 999999, 999999999999, -999999999999, 10 ** 30):
            self.assertIs(is_whole(thing), True, thing)

    def test_no_wholes(self):
        for thing in (True, False, None, "", "0", "1", [], [1], (), (1,), {}, {1: 1}, object()):
            self.assertIs(is_whole(thing), False, thing)

    def test_by_the_names_of_their_arguments(self):
        self.assertIs(is_name(thing="a"), True)
        self.assertIs(is_whole(thing=True), False)


class OneKind(unittest.TestCase):
    def refuses(self, refusal, *handed, **named):
        with self.assertRaises(refusal, msg=(handed, named)) as caught:
            Kind(*handed, **named)
        self.assertIs(caught.exception.__class__, refusal)

    def test_fields_as_handed_in(self):
        kind = lid()
        self.assertEqual(kind.name, "lid")
        self.assertEqual(kind.fields, [("colour", ["red", "grey"]), ("shut", ["no", "yes"])])
        self.assertEqual(kind.owner, "box")
        self.assertEqual(list(vars(kind)), ["name", "fields", "owner"])

    def test_kinds_of_the_fields(self):
        kind = lid()
        self.assertIs(kind.fields.__class__, list)
        for field in kind.fields:
            self.assertIs(field.__class__, tuple)
            self.assertIs(field[1].__class__, list)

    def test_owner_is_none_where_none_is_told(self):
        self.assertIsNone(Kind("box", []).owner)
        self.assertIsNone(Kind("box", [], None).owner)

    def test_by_the_names_of_its_arguments(self):
        kind = Kind(owner="box", fields=[("shut", ["no"])], name="lid")
        self.assertEqual((kind.name, kind.fields, kind.owner), ("lid", [("shut", ["no"])], "box"))
        self.assertEqual(list(inspect.signature(Kind).parameters), ["name", "fields", "owner"])

    def test_lists_changed_behind_change_nothing(self):
        values = ["no", "yes"]
        fields = [("shut", values)]
        kind = Kind("lid", fields)
        values.append("half")
        fields.append(("colour", ["red"]))
        self.assertEqual(kind.fields, [("shut", ["no", "yes"])])
        self.assertEqual(states(kind), [("no",), ("yes",)])

    def test_two_kinds_of_one_list_have_lists_of_their_own(self):
        fields = [("shut", ["no", "yes"])]
        one = Kind("lid", fields)
        other = Kind("door", fields)
        self.assertIsNot(one.fields, fields)
        self.assertIsNot(one.fields, other.fields)
        self.assertIsNot(one.fields[0][1], other.fields[0][1])
        self.assertIsNot(one.fields[0][1], fields[0][1])

    def test_what_is_handed_in_is_not_changed(self):
        for owner, refusal in (("box", None), ("lid", NoKind)):
            fields = [("colour", ["red", "grey"]), ("shut", ["no", "yes"])]
            ahead = copy.deepcopy(fields)
            if refusal is None:
                Kind("lid", fields, owner)
            else:
                self.refuses(refusal, "lid", fields, owner)
            self.assertEqual(fields, ahead)

    def test_a_name_that_is_none(self):
        for thing in NO_NAMES:
            self.refuses(NoKind, thing, [])

    def test_fields_that_are_no_list(self):
        for thing in (None, True, 0, "", "shut", (), (("shut", ["no"]),), {}, {"shut": ["no"]}, object()):
            self.refuses(NoKind, "lid", thing)

    def test_a_field_that_is_no_tuple_of_two(self):
        right = ("colour", ["red"])
        things = [
            None, True, 0, "ab", "shut", [], ["shut", ["no"]], {}, {"shut": ["no"]}, (), ("shut",),
            ("shut", ["no"], ["yes"]), ("shut", "no", "yes"), (["no"],), object(),
        ]
        for thing in things:
            self.refuses(NoKind, "lid", [thing])
            self.refuses(NoKind, "lid", [right, thing])
            self.refuses(NoKind, "lid", [thing, right])

    def test_a_field_whose_name_is_none(self):
        for thing in NO_NAMES:
            self.refuses(NoKind, "lid", [(thing, ["no", "yes"])])

    def test_values_that_are_no_list_or_an_empty_one(self):
        for thing in (None, True, 2, "", "no", "ab", (), ("no", "yes"), {}, {"no": "yes"}, [], object()):
            self.refuses(NoKind, "lid", [("shut", thing)])

    def test_a_value_that_is_no_name(self):
        for thing in NO_NAMES:
            self.refuses(NoKind, "lid", [("shut", [thing])])
            self.refuses(NoKind, "lid", [("shut", ["no", thing])])

    def test_two_values_alike(self):
        self.refuses(NoKind, "lid", [("shut", ["no", "no"])])
        self.refuses(NoKind, "lid", [("shut", ["no", "yes", "no"])])
        self.refuses(NoKind, "lid", [("colour", ["red"]), ("shut", ["no", "no"])])

    def test_two_fields_of_one_name(self):
        self.refuses(NoKind, "lid", [("shut", ["no"]), ("shut", ["yes"])])
        self.refuses(NoKind, "lid", [("shut", ["no"]), ("colour", ["red"]), ("shut", ["no"])])

    def test_an_owner_that_is_no_name(self):
        for thing in NO_NAMES:
            if thing is not None:
                self.refuses(NoKind, "lid", [], thing)

    def test_an_owner_is_another_kind(self):
        self.refuses(NoKind, "box", [], "box")
        self.refuses(NoKind, name="box", fields=[("shut", ["no"])], owner="box")

    def test_like_words_in_different_places(self):
        kind = Kind("box", [("box", ["box", "red"]), ("red", ["box", "red"])], "red")
        self.assertEqual(kind.fields, [("box", ["box", "red"]), ("red", ["box", "red"])])
        self.assertEqual(kind.owner, "red")


class States(unittest.TestCase):
    def test_without_fields_there_is_the_empty_one_alone(self):
        self.assertEqual(states(Kind("box", [])), [()])
        self.assertEqual(first_state(Kind("box", [])), ())

    def test_their_order(self):
        self.assertEqual(states(lid()), [("red", "no"), ("red", "yes"), ("grey", "no"), ("grey", "yes")])
        self.assertEqual(first_state(lid()), ("red", "no"))

    def test_values_stand_in_their_order_not_sorted(self):
        kind = Kind("box", [("size", ["z", "a", "m"])])
        self.assertEqual(states(kind), [("z",), ("a",), ("m",)])
        self.assertEqual(first_state(kind), ("z",))

    def test_three_fields(self):
        kind = Kind("box", [("x", ["b", "a"]), ("y", ["d", "c"]), ("z", ["f", "e"])])
        self.assertEqual(states(kind), list(itertools.product(["b", "a"], ["d", "c"], ["f", "e"])))
        self.assertEqual(first_state(kind), ("b", "d", "f"))

    def test_fields_of_unlike_lengths(self):
        kind = Kind("box", [("x", ["a"]), ("y", ["b", "c", "d"]), ("z", ["e", "f"])])
        self.assertEqual(states(kind), list(itertools.product(["a"], ["b", "c", "d"], ["e", "f"])))

    def test_a_list_of_tuples_new_each_time(self):
        kind = lid()
        told = states(kind)
        self.assertIs(told.__class__, list)
        for state in told + [first_state(kind)]:
            self.assertIs(state.__class__, tuple)
        told.clear()
        self.assertEqual(len(states(kind)), 4)
        self.assertEqual(states(kind=kind)[0], first_state(kind=kind))

    def test_the_kind_is_not_changed(self):
        kind = lid()
        states(kind)
        first_state(kind)
        self.assertEqual(vars(kind), vars(lid()))

    def test_eight_states(self):
        two = ["no", "yes"]
        for fields in (
            [("x", EIGHT)],
            [("x", two), ("y", list("abcd"))],
            [("x", list("abcd")), ("y", ["only"]), ("z", two)],
            [("x", two), ("y", two), ("z", two)],
        ):
            kind = Kind("box", fields)
            self.assertEqual(len(states(kind)), 8)
            self.assertEqual(states(kind)[0], first_state(kind))

    def test_more_than_eight_states(self):
        two = ["no", "yes"]
        three = ["a", "b", "c"]
        for fields in (
            [("x", EIGHT + ["i"])],
            [("x", three), ("y", three)],
            [("x", two), ("y", ["a", "b", "c", "d", "e"])],
            [("x", two), ("y", two), ("z", three)],
            [(name, list("abcdefghijklmnopqrstuvwxyz")) for name in ("x", "y", "z")],
        ):
            for owner in (None, "shelf"):
                with self.assertRaises(TooMany):
                    Kind("box", fields, owner)

    def test_no_kind_comes_ahead_of_too_many(self):
        nine = ("x", EIGHT + ["i"])
        for handed in (
            ("Box", [nine]),
            ("box", [nine, nine]),
            ("box", [nine, ("y", [])]),
            ("box", [nine, None]),
            ("box", [("x", EIGHT + ["a"])]),
            ("box", [nine], "box"),
            ("box", [nine], "Shelf"),
            ("box", [nine], 0),
        ):
            with self.assertRaises(NoKind, msg=handed):
                Kind(*handed)


def some_kinds():
    return [
        Kind("zoo", []),
        Kind("cage", [("shut", ["no", "yes"])], "zoo"),
        Kind("ape", [("fed", ["no", "yes"])], "cage"),
        Kind("box", []),
        Kind("bird", [], "cage"),
    ]


class ManyKinds(unittest.TestCase):
    def refuses(self, thing):
        with self.assertRaises(NoKind, msg=thing) as caught:
            Kinds(thing)
        self.assertIs(caught.exception.__class__, NoKind)

    def test_what_is_no_list(self):
        box = Kind("box", [])
        for thing in (None, True, 1, "", "box", (), (box,), {}, {"box": box}, box, Kinds([box]), object()):
            self.refuses(thing)

    def test_an_empty_list(self):
        self.refuses([])

    def test_things_that_are_no_kinds(self):
        box = Kind("box", [])
        for thing in NO_TEXTS[:-1] + ["lid", ("lid", [], None), Kinds([box]), Kind]:
            self.refuses([thing])
            self.refuses([box, thing])
            self.refuses([thing, box])

    def test_one_twice(self):
        box = Kind("box", [])
        self.refuses([box, box])
        self.refuses([box, Kind("lid", [], "box"), box])

    def test_two_of_one_name(self):
        self.refuses([Kind("box", []), Kind("box", [("shut", ["no"])])])
        self.refuses([Kind("bag", []), Kind("box", []), Kind("box", [], "bag")])

    def test_a_strange_owner(self):
        self.refuses([lid()])
        self.refuses([lid(), Kind("bag", [])])
        self.refuses([Kind("bag", []), Kind("cup", [], "bag"), lid()])

    def test_rings_of_owners(self):
        for many in (2, 3, 4, 5):
            ring = [Kind("abcde"[place], [], "abcde"[(place + 1) % many]) for place in range(many)]
            self.refuses(ring)
            self.refuses(ring[::-1])
            self.refuses(ring + [Kind("top", [])])
            self.refuses([Kind("under", [], "a")] + ring)
            self.refuses([Kind("top", []), Kind("next", [], "top")] + ring)

    def test_a_ring_of_one(self):
        with self.assertRaises(NoKind):
            Kinds([Kind("box", [], "box")])

    def test_one_kind(self):
        kinds = Kinds([Kind("box", [])])
        self.assertEqual(kinds.order(), ["box"])
        self.assertEqual(kinds.owned("box"), [])

    def test_more_than_five_are_not_refused(self):
        kinds = Kinds([Kind(name, []) for name in ("f", "e", "d", "c", "b", "a")])
        self.assertEqual(kinds.order(), ["a", "b", "c", "d", "e", "f"])

    def test_order_however_they_are_handed_in(self):
        for handed in itertools.permutations(some_kinds()):
            self.assertEqual(Kinds(list(handed)).order(), ["box", "zoo", "cage", "ape", "bird"])

    def test_the_first_by_its_name_is_always_the_next(self):
        # c is free as soon as its owner b stands, so it comes ahead of d.
        made = [Kind("d", []), Kind("c", [], "b"), Kind("b", []), Kind("a", [], "d")]
        for handed in itertools.permutations(made):
            self.assertEqual(Kinds(list(handed)).order(), ["b", "c", "d", "a"])

    def test_a_row_of_owners(self):
        made = [Kind("a", [], "b"), Kind("b", [], "c"), Kind("c", [], "d"), Kind("d", [], "e"), Kind("e", [])]
        for handed in itertools.permutations(made):
            self.assertEqual(Kinds(list(handed)).order(), ["e", "d", "c", "b", "a"])

    def test_shorter_texts_come_ahead_of_longer_ones_that_begin_so(self):
        made = [Kind("boxes", []), Kind("box", []), Kind("bow", []), Kind("b", [])]
        self.assertEqual(Kinds(made).order(), ["b", "bow", "box", "boxes"])

    def test_order_is_a_new_list_each_time(self):
        kinds = Kinds(some_kinds())
        told = kinds.order()
        self.assertIs(told.__class__, list)
        told.reverse()
        told.append("other")
        self.assertEqual(kinds.order(), ["box", "zoo", "cage", "ape", "bird"])

    def test_a_kind_by_its_name(self):
        made = some_kinds()
        kinds = Kinds(made)
        for kind in made:
            told = kinds.of(kind.name)
            self.assertIsInstance(told, Kind)
            self.assertEqual(vars(told), vars(kind))
        self.assertEqual(kinds.of(name="ape").owner, "cage")

    def test_the_kinds_owned_by_one(self):
        for handed in itertools.permutations(some_kinds()):
            kinds = Kinds(list(handed))
            self.assertEqual(kinds.owned("cage"), ["ape", "bird"])
            self.assertEqual(kinds.owned("zoo"), ["cage"])
            for name in ("box", "ape", "bird"):
                self.assertEqual(kinds.owned(name), [])
        self.assertEqual(kinds.owned(name="zoo"), ["cage"])

    def test_owned_is_a_new_list_each_time(self):
        kinds = Kinds(some_kinds())
        told = kinds.owned("cage")
        self.assertIs(told.__class__, list)
        told.clear()
        self.assertEqual(kinds.owned("cage"), ["ape", "bird"])

    def test_strange_names_and_what_is_none(self):
        kinds = Kinds(some_kinds())
        for thing in NO_NAMES + ["lid", "cages", "cag", "box.0", "order", "name"]:
            for asked in (kinds.of, kinds.owned):
                with self.assertRaises(NoName, msg=thing) as caught:
                    asked(thing)
                self.assertIs(caught.exception.__class__, NoName)
        self.assertEqual(kinds.order(), ["box", "zoo", "cage", "ape", "bird"])

    def test_the_list_handed_in(self):
        handed = some_kinds()
        ahead = list(handed)
        kinds = Kinds(kinds=handed)
        self.assertEqual(handed, ahead)
        handed.append(Kind("extra", [], "cage"))
        handed.pop(0)
        self.assertEqual(kinds.order(), ["box", "zoo", "cage", "ape", "bird"])
        self.assertEqual(kinds.owned("cage"), ["ape", "bird"])
        self.assertEqual(kinds.of("zoo").name, "zoo")
        with self.assertRaises(NoName):
            kinds.of("extra")

    def test_a_refused_list_is_not_changed(self):
        handed = [Kind("b", [], "a"), Kind("a", [], "b")]
        ahead = list(handed)
        self.refuses(handed)
        self.assertEqual(handed, ahead)
        self.assertEqual([kind.owner for kind in handed], ["a", "b"])


if __name__ == "__main__":
    unittest.main()
