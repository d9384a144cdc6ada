"""Points [2], [17], [18]: rules, where they can be used, and what comes of them."""

import inspect
import itertools
import unittest

from cometorest.conditions import Always, Both, Is, Not, Owner, Wanted
from cometorest.errors import NoRule
from cometorest.kinds import Kind, Kinds
from cometorest.rules import Change, Rule, ToMake, ToSet, ToTake, can_be_used, state_behind
from tests.strange import NO_LISTS, NO_NAMES, NO_TEXTS, no_names_but

KINDS = Kinds([
    Kind("box", [("size", ["s", "m"]), ("shut", ["no", "yes"])]),
    Kind("lid", [("colour", ["red", "grey"]), ("shut", ["no", "yes", "half"])], "box"),
    Kind("bag", []),
    Kind("tag", [], "bag"),
])
OWNER = ("m", "no")

CHANGES = [
    (ToMake, ["fields"], [["shut", "colour"]]),
    (ToSet, ["field", "value"], ["shut", "no"]),
    (ToTake, [], []),
]


def lid_rule(change, condition=None):
    return Rule("lid", change, Always() if condition is None else condition, [])


def lid(wished, state, owner=OWNER):
    return ("lid", wished, owner, state)


WISHED = [None] + list(itertools.product([None, "red", "grey"], [None, "no", "yes", "half"]))
STATES = list(itertools.product(["red", "grey"], ["no", "yes", "half"]))


class Changes(unittest.TestCase):
    def refuses(self, made, *handed):
        with self.assertRaises(NoRule, msg=(made, handed)) as caught:
            made(*handed)
        self.assertIs(caught.exception.__class__, NoRule)

    def test_fields(self):
        for made, names, handed in CHANGES:
            change = made(*handed)
            self.assertIsInstance(change, Change)
            self.assertEqual(list(vars(change)), names)
            self.assertEqual(list(vars(change).values()), handed)
            if names:
                self.assertEqual(list(inspect.signature(made).parameters), names)

    def test_by_the_names_of_their_arguments(self):
        for made, names, handed in CHANGES:
            change = made(**dict(reversed(list(zip(names, handed)))))
            self.assertEqual(list(vars(change).values()), handed)

    def test_edges(self):
        self.assertEqual(ToMake([]).fields, [])
        self.assertIsNone(ToSet("shut", None).value)
        self.assertEqual(ToMake(["a", "b", "c", "d"]).fields, ["a", "b", "c", "d"])

    def test_a_making_of_what_is_no_list(self):
        for thing in NO_LISTS + ["shut", ("shut",), {"shut": True}]:
            self.refuses(ToMake, thing)

    def test_a_making_of_what_is_no_name(self):
        for thing in NO_NAMES:
            self.refuses(ToMake, [thing])
            self.refuses(ToMake, ["shut", thing])
            self.refuses(ToMake, [thing, "shut"])

    def test_a_making_of_two_alike(self):
        self.refuses(ToMake, ["shut", "shut"])
        self.refuses(ToMake, ["shut", "colour", "shut"])

    def test_a_setting_of_what_is_no_name(self):
        for thing in NO_NAMES:
            self.refuses(ToSet, thing, "no")
            self.refuses(ToSet, thing, None)
        for thing in no_names_but(None):
            self.refuses(ToSet, "shut", thing)

    def test_a_list_changed_behind_changes_nothing(self):
        fields = ["shut"]
        change = ToMake(fields)
        fields.append("colour")
        self.assertEqual(change.fields, ["shut"])
        self.assertIsNot(ToMake(change.fields).fields, change.fields)

    def test_what_is_handed_in_is_not_changed(self):
        fields = ["shut", "colour"]
        ToMake(fields)
        self.assertEqual(fields, ["shut", "colour"])
        fields.append("shut")
        self.refuses(ToMake, fields)
        self.assertEqual(fields, ["shut", "colour", "shut"])


class Rules(unittest.TestCase):
    def refuses(self, *handed):
        with self.assertRaises(NoRule, msg=handed) as caught:
            Rule(*handed)
        self.assertIs(caught.exception.__class__, NoRule)

    def test_fields(self):
        change = ToTake()
        condition = Not(Wanted())
        rule = Rule("lid", change, condition, ["box", "bag"])
        self.assertEqual(list(vars(rule)), ["kind", "change", "condition", "behind"])
        self.assertEqual(rule.kind, "lid")
        self.assertIs(rule.change.__class__, ToTake)
        self.assertIs(rule.condition.__class__, Not)
        self.assertEqual(rule.behind, ["box", "bag"])
        self.assertEqual(list(inspect.signature(Rule).parameters), ["kind", "change", "condition", "behind"])

    def test_by_the_names_of_its_arguments(self):
        rule = Rule(behind=["bag"], condition=Always(), change=ToSet("shut", None), kind="lid")
        self.assertEqual((rule.kind, rule.change.field, rule.behind), ("lid", "shut", ["bag"]))
        situation = lid(("red", "yes"), ("grey", "no"))
        self.assertIs(can_be_used(situation=situation, rule=rule, kinds=KINDS), True)
        self.assertEqual(state_behind(situation=situation, rule=rule, kinds=KINDS), ("grey", "yes"))

    def test_a_kind_that_is_none(self):
        for thing in NO_NAMES + [Kind("box", [])]:
            self.refuses(thing, ToTake(), Always(), [])

    def test_a_deed_that_is_none(self):
        for thing in NO_TEXTS + ["take", "", ToTake, Change, [ToTake()], (ToTake(),), Always(), KINDS]:
            self.refuses("lid", thing, Always(), [])

    def test_a_condition_that_is_none(self):
        for thing in NO_TEXTS + ["always", "", Always, [Always()], (Always(),), ToTake(), KINDS]:
            self.refuses("lid", ToTake(), thing, [])

    def test_behind_that_is_no_list(self):
        for thing in NO_LISTS + ["bag", ("bag",), {"bag": True}]:
            self.refuses("lid", ToTake(), Always(), thing)

    def test_behind_what_is_no_name(self):
        for thing in NO_NAMES:
            self.refuses("lid", ToTake(), Always(), [thing])
            self.refuses("lid", ToTake(), Always(), ["bag", thing])
            self.refuses("lid", ToTake(), Always(), [thing, "bag"])

    def test_behind_two_alike(self):
        self.refuses("lid", ToTake(), Always(), ["bag", "bag"])
        self.refuses("lid", ToTake(), Always(), ["bag", "box", "bag"])

    def test_behind_its_own_kind(self):
        self.refuses("lid", ToTake(), Always(), ["lid"])
        self.refuses("lid", ToTake(), Always(), ["bag", "lid"])
        self.refuses("lid", ToTake(), Always(), ["lid", "bag"])

    def test_strange_kinds_and_fields_are_rules_too(self):
        rule = Rule("cup", ToSet("weight", "much"), Is("weight", "none"), ["plate"])
        self.assertEqual((rule.kind, rule.behind), ("cup", ["plate"]))

    def test_a_list_changed_behind_changes_nothing(self):
        behind = ["bag"]
        rule = Rule("lid", ToTake(), Always(), behind)
        behind.append("box")
        self.assertEqual(rule.behind, ["bag"])
        self.assertIsNot(Rule("lid", ToTake(), Always(), rule.behind).behind, rule.behind)

    def test_what_is_handed_in_is_not_changed(self):
        for behind in (["bag", "box"], ["bag", "bag"], ["lid"]):
            ahead = list(behind)
            try:
                Rule("lid", ToTake(), Always(), behind)
            except NoRule:
                pass
            self.assertEqual(behind, ahead)


class Used(unittest.TestCase):
    def can(self, rule, situation):
        told = can_be_used(KINDS, rule, situation)
        self.assertIs(told.__class__, bool)
        return told

    def test_situations_of_other_kinds(self):
        strange = Rule("cup", ToTake(), Always(), [])
        for change in (ToMake([]), ToSet("shut", "no"), ToSet("shut", None), ToTake()):
            for wished in (None, (None, "no")):
                for state in (None, ("s", "no")):
                    situation = ("box", wished, None, state)
                    self.assertFalse(self.can(lid_rule(change), situation))
                    self.assertFalse(self.can(strange, situation))

    def test_where_the_condition_does_not_hold(self):
        never = Not(Always())
        for change, situation in (
            (ToMake([]), lid((None, None), None)),
            (ToSet("shut", "no"), lid(None, ("red", "no"))),
            (ToSet("shut", None), lid((None, "no"), ("red", "no"))),
            (ToTake(), lid(None, ("red", "no"))),
        ):
            self.assertTrue(self.can(lid_rule(change), situation))
            self.assertFalse(self.can(lid_rule(change, never), situation))
            self.assertTrue(self.can(lid_rule(change, Owner("size", "m")), situation))
            self.assertFalse(self.can(lid_rule(change, Owner("size", "s")), situation))

    def test_behind_is_not_looked_at(self):
        for behind in ([], ["bag"], ["bag", "box", "tag"], ["plate"]):
            rule = Rule("lid", ToTake(), Always(), behind)
            self.assertTrue(self.can(rule, lid(None, ("red", "no"))))
            self.assertIsNone(state_behind(KINDS, rule, lid(None, ("red", "no"))))

    def test_a_making(self):
        for fields in ([], ["shut"], ["shut", "colour"]):
            rule = lid_rule(ToMake(fields))
            for wished in WISHED:
                self.assertEqual(self.can(rule, lid(wished, None)), wished is not None)
                for state in STATES:
                    self.assertFalse(self.can(rule, lid(wished, state)))

    def test_a_making_whose_owner_is_not_there(self):
        rule = lid_rule(ToMake([]))
        self.assertTrue(self.can(rule, lid((None, None), None)))
        self.assertFalse(self.can(rule, lid((None, None), None, None)))

    def test_a_making_without_owner_or_fields(self):
        self.assertTrue(self.can(Rule("box", ToMake(["size"]), Always(), []), ("box", ("m", None), None, None)))
        self.assertTrue(self.can(Rule("bag", ToMake([]), Always(), []), ("bag", (), None, None)))
        self.assertFalse(self.can(Rule("bag", ToMake([]), Always(), []), ("bag", None, None, None)))
        self.assertFalse(self.can(Rule("bag", ToMake([]), Always(), []), ("bag", (), None, ())))
        self.assertTrue(self.can(Rule("tag", ToMake([]), Always(), []), ("tag", (), (), None)))

    def test_a_setting_to_a_value_told(self):
        for value in ("no", "yes", "half"):
            rule = lid_rule(ToSet("shut", value))
            for wished in WISHED:
                self.assertFalse(self.can(rule, lid(wished, None)))
                for state in STATES:
                    self.assertTrue(self.can(rule, lid(wished, state)))

    def test_a_setting_of_a_strange_field_or_value(self):
        for change in (ToSet("weight", "no"), ToSet("weight", None), ToSet("size", "s"), ToSet("size", None),
                       ToSet("shut", "red"), ToSet("shut", "never"), ToSet("colour", "no")):
            for wished in WISHED:
                for state in [None] + STATES:
                    self.assertFalse(self.can(lid_rule(change), lid(wished, state)))

    def test_a_setting_to_the_wished_value(self):
        for place, field in enumerate(["colour", "shut"]):
            rule = lid_rule(ToSet(field, None))
            for wished in WISHED:
                self.assertFalse(self.can(rule, lid(wished, None)))
                for state in STATES:
                    cared = wished is not None and wished[place] is not None
                    self.assertEqual(self.can(rule, lid(wished, state)), cared)

    def test_a_taking(self):
        for wished in WISHED:
            self.assertFalse(self.can(lid_rule(ToTake()), lid(wished, None)))
            for state in STATES:
                self.assertTrue(self.can(lid_rule(ToTake()), lid(wished, state)))
        self.assertTrue(self.can(Rule("bag", ToTake(), Always(), []), ("bag", None, None, ())))

    def test_conditions_are_asked_of_the_situation(self):
        rule = lid_rule(ToTake(), Both([Not(Wanted()), Is("shut", "yes")]))
        for wished in WISHED:
            for state in STATES:
                self.assertEqual(self.can(rule, lid(wished, state)), wished is None and state[1] == "yes")


class Behind(unittest.TestCase):
    def comes(self, rule, situation):
        self.assertIs(can_be_used(KINDS, rule, situation), True)
        return state_behind(KINDS, rule, situation)

    def test_of_a_making(self):
        for fields in ([], ["colour"], ["shut"], ["shut", "colour"], ["colour", "shut"], ["weight", "shut"]):
            rule = lid_rule(ToMake(fields))
            for wished in WISHED[1:]:
                colour = wished[0] if "colour" in fields and wished[0] is not None else "red"
                shut = wished[1] if "shut" in fields and wished[1] is not None else "no"
                told = self.comes(rule, lid(wished, None))
                self.assertEqual(told, (colour, shut))
                self.assertIs(told.__class__, tuple)

    def test_of_a_making_without_fields(self):
        self.assertEqual(self.comes(Rule("bag", ToMake([]), Always(), []), ("bag", (), None, None)), ())

    def test_of_a_setting(self):
        for value in ("no", "yes", "half"):
            for wished in WISHED:
                for state in STATES:
                    told = self.comes(lid_rule(ToSet("shut", value)), lid(wished, state))
                    self.assertEqual(told, (state[0], value))
                    self.assertIs(told.__class__, tuple)

    def test_of_a_setting_of_the_first_field(self):
        self.assertEqual(self.comes(lid_rule(ToSet("colour", "grey")), lid(None, ("red", "half"))), ("grey", "half"))

    def test_of_a_setting_to_the_same_value(self):
        self.assertEqual(self.comes(lid_rule(ToSet("colour", "red")), lid(None, ("red", "half"))), ("red", "half"))
        self.assertEqual(self.comes(lid_rule(ToSet("shut", None)), lid((None, "no"), ("red", "no"))), ("red", "no"))

    def test_of_a_setting_to_the_wished_value(self):
        for wished in WISHED[1:]:
            for state in STATES:
                if wished[0] is not None:
                    told = self.comes(lid_rule(ToSet("colour", None)), lid(wished, state))
                    self.assertEqual(told, (wished[0], state[1]))
                if wished[1] is not None:
                    told = self.comes(lid_rule(ToSet("shut", None)), lid(wished, state))
                    self.assertEqual(told, (state[0], wished[1]))

    def test_a_value_told_comes_ahead_of_the_wished_one(self):
        told = self.comes(lid_rule(ToSet("shut", "half")), lid((None, "yes"), ("red", "no")))
        self.assertEqual(told, ("red", "half"))

    def test_of_a_taking(self):
        for wished in WISHED:
            for state in STATES:
                self.assertIsNone(self.comes(lid_rule(ToTake()), lid(wished, state)))


if __name__ == "__main__":
    unittest.main()
