"""Points [2], [16]: conditions, and where they hold of a situation."""

import inspect
import itertools
import unittest

from cometorest.conditions import Always, Both, Condition, Either, Is, Meets, Not, Owner, Wanted
from cometorest.errors import NoRule
from cometorest.kinds import Kind, Kinds
from tests.strange import NO_LISTS, NO_NAMES, NO_TEXTS

KINDS = Kinds([
    Kind("box", [("size", ["s", "m"]), ("shut", ["no", "yes"])]),
    Kind("lid", [("colour", ["red", "grey"]), ("shut", ["no", "yes"])], "box"),
    Kind("bag", []),
    Kind("tag", [], "bag"),
])

# Each with its fields, in the order of its parameters.
MADE = [
    (Always, [], []),
    (Wanted, [], []),
    (Is, ["field", "value"], ["shut", "no"]),
    (Meets, ["field"], ["shut"]),
    (Owner, ["field", "value"], ["size", "m"]),
    (Not, ["condition"], [Always()]),
    (Both, ["conditions"], [[Always(), Wanted()]]),
    (Either, ["conditions"], [[Always(), Wanted(), Is("shut", "no")]]),
]
NO_CONDITIONS = NO_TEXTS + ["always", "wanted", Always, Condition, [Always()], (Always(), Always()), KINDS]


def box(wished, state):
    return ("box", wished, None, state)


def lid(wished, owner, state):
    return ("lid", wished, owner, state)


LIDS = [
    lid(wished, owner, state)
    for wished in [None] + list(itertools.product([None, "red", "grey"], [None, "no", "yes"]))
    for owner in itertools.product(["s", "m"], ["no", "yes"])
    for state in [None] + list(itertools.product(["red", "grey"], ["no", "yes"]))
]


class Made(unittest.TestCase):
    def refuses(self, made, *handed):
        with self.assertRaises(NoRule, msg=(made, handed)) as caught:
            made(*handed)
        self.assertIs(caught.exception.__class__, NoRule)

    def test_fields(self):
        for made, names, handed in MADE:
            condition = made(*handed)
            self.assertIsInstance(condition, Condition)
            self.assertEqual(list(vars(condition)), names)
            self.assertEqual(list(vars(condition).values()), handed)
            if names:
                self.assertEqual(list(inspect.signature(made).parameters), names)

    def test_by_the_names_of_their_arguments(self):
        for made, names, handed in MADE:
            condition = made(**dict(reversed(list(zip(names, handed)))))
            self.assertEqual(list(vars(condition).values()), handed)
            self.assertIs(condition.holds(situation=box(None, ("s", "no")), kinds=KINDS).__class__, bool)

    def test_fields_and_values_that_are_no_names(self):
        for thing in NO_NAMES:
            self.refuses(Is, thing, "no")
            self.refuses(Is, "shut", thing)
            self.refuses(Is, thing, thing)
            self.refuses(Meets, thing)
            self.refuses(Owner, thing, "no")
            self.refuses(Owner, "shut", thing)

    def test_what_is_no_condition(self):
        for thing in NO_CONDITIONS:
            self.refuses(Not, thing)
            for made in (Both, Either):
                self.refuses(made, [thing, Always()])
                self.refuses(made, [Always(), thing])
                self.refuses(made, [Always(), Always(), thing])

    def test_conditions_that_are_no_list(self):
        two = [Always(), Always()]
        for thing in NO_LISTS + [Always(), tuple(two), dict(enumerate(two)), Both(two)]:
            self.refuses(Both, thing)
            self.refuses(Either, thing)

    def test_lists_of_less_than_two(self):
        for made in (Both, Either):
            self.refuses(made, [])
            self.refuses(made, [Always()])

    def test_a_list_changed_behind_changes_nothing(self):
        for made in (Both, Either):
            conditions = [Always(), Always()]
            condition = made(conditions)
            self.assertIsNot(condition.conditions, conditions)
            conditions[0] = Not(Always())
            conditions[1] = Not(Always())
            self.assertIs(condition.holds(KINDS, box(None, None)), True)
            self.assertEqual([one.__class__ for one in condition.conditions], [Always, Always])
            conditions.clear()
            self.assertEqual(len(condition.conditions), 2)

    def test_two_of_one_list_have_lists_of_their_own(self):
        one = Both([Always(), Wanted()])
        other = Either(one.conditions)
        self.assertIsNot(one.conditions, other.conditions)

    def test_what_is_handed_in_is_not_changed(self):
        for conditions in ([Always(), Wanted()], [Always()], [Always(), None]):
            for made in (Both, Either):
                ahead = list(conditions)
                try:
                    made(conditions)
                except NoRule:
                    pass
                self.assertEqual(conditions, ahead)

    def test_one_condition_may_stand_twice(self):
        one = Wanted()
        self.assertIs(Both([one, one]).holds(KINDS, box((None, None), None)), True)

    def test_a_field_may_be_called_like_a_condition(self):
        self.assertIs(Is("is", "is").holds(KINDS, box(None, ("s", "no"))), False)


class Holds(unittest.TestCase):
    def holds(self, condition, situation):
        told = condition.holds(KINDS, situation)
        self.assertIn(told, (True, False))
        self.assertIs(told.__class__, bool)
        return told

    def test_always(self):
        for situation in LIDS + [box(None, None), ("bag", None, None, None), ("bag", (), None, ())]:
            self.assertTrue(self.holds(Always(), situation))

    def test_wanted(self):
        for situation in LIDS:
            self.assertEqual(self.holds(Wanted(), situation), situation[1] is not None)
        self.assertTrue(self.holds(Wanted(), ("bag", (), None, None)))
        self.assertTrue(self.holds(Wanted(), ("bag", (), None, ())))
        self.assertFalse(self.holds(Wanted(), ("bag", None, None, ())))

    def test_is(self):
        for situation in LIDS:
            state = situation[3]
            for colour in ("red", "grey"):
                self.assertEqual(self.holds(Is("colour", colour), situation), state is not None and state[0] == colour)
            for shut in ("no", "yes"):
                self.assertEqual(self.holds(Is("shut", shut), situation), state is not None and state[1] == shut)

    def test_is_of_strange_fields_and_values(self):
        for situation in LIDS + [("bag", (), None, ()), ("tag", (), (), ())]:
            self.assertFalse(self.holds(Is("weight", "red"), situation))
            self.assertFalse(self.holds(Is("size", "s"), situation))
            self.assertFalse(self.holds(Is("colour", "blue"), situation))
            self.assertFalse(self.holds(Is("colour", "no"), situation))

    def test_meets(self):
        for situation in LIDS:
            wished, state = situation[1], situation[3]
            for place, field in enumerate(["colour", "shut"]):
                right = wished is not None and state is not None and wished[place] in (None, state[place])
                self.assertEqual(self.holds(Meets(field), situation), right, situation)

    def test_meets_where_it_is_not_there_or_not_wished(self):
        self.assertFalse(self.holds(Meets("size"), box((None, None), None)))
        self.assertFalse(self.holds(Meets("size"), box(("s", None), None)))
        self.assertFalse(self.holds(Meets("size"), box(None, ("s", "no"))))
        self.assertFalse(self.holds(Meets("size"), box(None, None)))

    def test_meets_of_a_field_that_the_state_has_not(self):
        for situation in LIDS + [("bag", (), None, ()), ("tag", (), (), ())]:
            self.assertFalse(self.holds(Meets("size"), situation))
            self.assertFalse(self.holds(Meets("weight"), situation))

    def test_owner(self):
        for situation in LIDS:
            owner = situation[2]
            for size in ("s", "m"):
                self.assertEqual(self.holds(Owner("size", size), situation), owner[0] == size)
            for shut in ("no", "yes"):
                self.assertEqual(self.holds(Owner("shut", shut), situation), owner[1] == shut)

    def test_owner_where_there_is_none(self):
        state = ("s", "no")
        for situation in (box(None, None), box(None, state), box(state, state), box(state, None)):
            self.assertFalse(self.holds(Owner("size", "s"), situation))
            self.assertFalse(self.holds(Owner("shut", "no"), situation))

    def test_owner_of_a_field_or_value_that_it_has_not(self):
        for situation in LIDS + [("tag", (), (), ()), ("tag", None, (), None)]:
            self.assertFalse(self.holds(Owner("colour", "red"), situation))
            self.assertFalse(self.holds(Owner("weight", "s"), situation))
            self.assertFalse(self.holds(Owner("size", "l"), situation))
            self.assertFalse(self.holds(Owner("size", "no"), situation))

    def test_a_field_of_one_name_in_both_is_each_ones_own(self):
        situation = lid((None, "no"), ("s", "yes"), ("red", "no"))
        self.assertTrue(self.holds(Is("shut", "no"), situation))
        self.assertFalse(self.holds(Is("shut", "yes"), situation))
        self.assertTrue(self.holds(Owner("shut", "yes"), situation))
        self.assertFalse(self.holds(Owner("shut", "no"), situation))

    def test_not(self):
        for situation in LIDS:
            for condition in (Always(), Wanted(), Is("shut", "no"), Meets("shut"), Owner("shut", "no")):
                self.assertEqual(self.holds(Not(condition), situation), not self.holds(condition, situation))
                self.assertEqual(self.holds(Not(Not(condition)), situation), self.holds(condition, situation))

    def test_not_of_a_field_that_it_has_not_holds(self):
        self.assertTrue(self.holds(Not(Is("weight", "s")), box(None, ("s", "no"))))
        self.assertTrue(self.holds(Not(Meets("weight")), box((None, None), ("s", "no"))))
        self.assertTrue(self.holds(Not(Owner("size", "s")), box(None, ("s", "no"))))

    def test_both_and_either_by_all_truths(self):
        situation = box(None, None)
        for many in (2, 3, 4):
            for truths in itertools.product([True, False], repeat=many):
                parts = [Always() if truth else Not(Always()) for truth in truths]
                self.assertEqual(self.holds(Both(parts), situation), all(truths))
                self.assertEqual(self.holds(Either(parts), situation), any(truths))

    def test_nests(self):
        condition = Either([
            Both([Wanted(), Not(Is("shut", "yes")), Owner("size", "m")]),
            Not(Either([Wanted(), Both([Is("colour", "red"), Meets("shut")])])),
        ])
        for situation in LIDS:
            wished, owner, state = situation[1:]
            shut = state is not None and state[1] == "yes"
            one = wished is not None and not shut and owner[0] == "m"
            meets = wished is not None and state is not None and wished[1] in (None, state[1])
            other = wished is not None or (state is not None and state[0] == "red" and meets)
            self.assertEqual(self.holds(condition, situation), one or not other)

    def test_deep_and_long_ones(self):
        deep = Is("shut", "no")
        for turn in range(20):
            deep = Not(deep) if turn % 2 else Both([deep, Always()])
        self.assertTrue(self.holds(deep, box(None, ("s", "no"))))
        self.assertFalse(self.holds(deep, box(None, ("s", "yes"))))
        self.assertFalse(self.holds(Both([Always()] * 50 + [Wanted()]), box(None, None)))
        self.assertTrue(self.holds(Either([Wanted()] * 50 + [Always()]), box(None, None)))


if __name__ == "__main__":
    unittest.main()
