"""Points [2], [25] to [27]: situations, the steps from them, and where they are right."""

import inspect
import itertools
import unittest

from cometorest.conditions import Always, Is, Meets, Not, Owner, Wanted
from cometorest.errors import NoName, NoRule, NoSituation
from cometorest.hands import Hand
from cometorest.kinds import Kind, Kinds, states
from cometorest.rules import Rule, ToMake, ToSet, ToTake
from cometorest.situations import is_right, situations, steps
from tests.strange import NO_LISTS, NO_NAMES, NO_TEXTS, Alike, AlikeKey

KINDS = Kinds([
    Kind("box", [("size", ["s", "m"])]),
    Kind("lid", [("colour", ["red", "grey"]), ("shut", ["no", "yes"])], "box"),
    Kind("knob", [], "lid"),
    Kind("bag", []),
    Kind("tag", [("size", ["few", "many", "all"])], "bag"),
])


def rule(kind, change, condition=None, behind=()):
    return Rule(kind, change, Always() if condition is None else condition, list(behind))


class Situations(unittest.TestCase):
    def test_without_fields_and_owner(self):
        self.assertEqual(situations(KINDS, "bag"), [
            ("bag", None, None, None), ("bag", None, None, ()), ("bag", (), None, None), ("bag", (), None, ())])

    def test_one_field(self):
        self.assertEqual(situations(KINDS, "box"), [
            ("box", None, None, None), ("box", None, None, ("s",)), ("box", None, None, ("m",)),
            ("box", (None,), None, None), ("box", (None,), None, ("s",)), ("box", (None,), None, ("m",)),
            ("box", ("s",), None, None), ("box", ("s",), None, ("s",)), ("box", ("s",), None, ("m",)),
            ("box", ("m",), None, None), ("box", ("m",), None, ("s",)), ("box", ("m",), None, ("m",))])

    def test_with_an_owner_without_fields(self):
        self.assertEqual(situations(KINDS, "tag"), [
            ("tag", wished, (), state) for wished in (None, (None,), ("few",), ("many",), ("all",))
            for state in (None, ("few",), ("many",), ("all",))])

    def test_without_fields_with_an_owner(self):
        owners = [("red", "no"), ("red", "yes"), ("grey", "no"), ("grey", "yes")]
        self.assertEqual(situations(KINDS, "knob"), [
            ("knob", wished, owner, state) for wished in (None, ()) for owner in owners for state in (None, ())])

    def test_several_fields_and_an_owner(self):
        wished = [None, (None, None), (None, "no"), (None, "yes"), ("red", None), ("red", "no"), ("red", "yes"),
                  ("grey", None), ("grey", "no"), ("grey", "yes")]
        own = [None, ("red", "no"), ("red", "yes"), ("grey", "no"), ("grey", "yes")]
        right = [("lid",) + rest for rest in itertools.product(wished, [("s",), ("m",)], own)]
        self.assertEqual(situations(KINDS, "lid"), right)
        self.assertEqual(len(right), 100)

    def test_values_in_their_own_order(self):
        kinds = Kinds([Kind("a", [("b", ["z", "y"]), ("a", ["x"])])])
        own = [None, ("z", "x"), ("y", "x")]
        wished = [None, (None, None), (None, "x"), ("z", None), ("z", "x"), ("y", None), ("y", "x")]
        self.assertEqual(situations(kinds, "a"), [("a", wish, None, state) for wish in wished for state in own])

    def test_eight_states(self):
        fields = [(name, ["n", "y"]) for name in ("a", "b", "c")]
        kinds = Kinds([Kind("up", fields), Kind("down", fields, "up")])
        found = situations(kinds, "down")
        self.assertEqual(len(found), 28 * 8 * 9)
        self.assertEqual(len(set(found)), len(found))
        self.assertEqual(found[0], ("down", None, ("n", "n", "n"), None))
        self.assertEqual(found[-1], ("down", ("y", "y", "y"), ("y", "y", "y"), ("y", "y", "y")))

    def test_a_new_list_each_time(self):
        first = situations(KINDS, "bag")
        self.assertIs(first.__class__, list)
        first.clear()
        self.assertEqual(len(situations(KINDS, "bag")), 4)
        states(KINDS.of("box")).clear()
        self.assertEqual(len(situations(KINDS, "box")), 12)

    def test_strange_names(self):
        for thing in NO_NAMES + ["cup", "boxx", "bo", "box.0", KINDS.of("box"), AlikeKey(), ("box",)]:
            with self.assertRaises(NoName, msg=thing) as caught:
                situations(KINDS, thing)
            self.assertIs(caught.exception.__class__, NoName)

    def test_names_of_arguments(self):
        self.assertEqual(list(inspect.signature(situations).parameters), ["kinds", "kind"])
        self.assertEqual(list(inspect.signature(steps).parameters), ["kinds", "hands", "situation"])
        self.assertEqual(list(inspect.signature(is_right).parameters), ["situation"])
        self.assertEqual(len(situations(kind="bag", kinds=KINDS)), 4)


ANNA = Hand("anna", [
    rule("box", ToMake(["size"])),
    rule("box", ToSet("size", None), Not(Meets("size"))),
    rule("box", ToTake(), Not(Wanted())),
    rule("lid", ToMake(["shut"]), Owner("size", "m"), behind=["bag", "box"]),
    rule("lid", ToSet("shut", "yes")),
])
OTTO = Hand("otto", [
    rule("lid", ToTake(), Is("colour", "grey"), behind=["tag"]),
    rule("box", ToTake()),
])
HANDS = [ANNA, Hand("idle", []), OTTO]


class Steps(unittest.TestCase):
    def test_several_hands_and_rules(self):
        self.assertEqual(steps(KINDS, HANDS, ("box", ("m",), None, ("s",))), [
            ("anna", 1, ("box", ("m",), None, ("m",))), ("otto", 1, ("box", ("m",), None, None))])
        self.assertEqual(steps(KINDS, HANDS, ("box", None, None, ("s",))), [
            ("anna", 2, ("box", None, None, None)), ("otto", 1, ("box", None, None, None))])
        self.assertEqual(steps(KINDS, HANDS, ("box", ("m",), None, None)), [("anna", 0, ("box", ("m",), None, ("m",)))])
        self.assertEqual(steps(KINDS, HANDS, ("box", (None,), None, None)), [
            ("anna", 0, ("box", (None,), None, ("s",)))])

    def test_hands_in_their_order(self):
        told = steps(KINDS, [OTTO, ANNA], ("box", ("m",), None, ("s",)))
        self.assertEqual([step[:2] for step in told], [("otto", 1), ("anna", 1)])

    def test_behind_is_not_looked_at(self):
        wished = ("grey", "yes")
        self.assertEqual(steps(KINDS, HANDS, ("lid", wished, ("m",), None)), [
            ("anna", 3, ("lid", wished, ("m",), ("red", "yes")))])
        self.assertEqual(steps(KINDS, HANDS, ("lid", None, ("s",), ("grey", "no"))), [
            ("anna", 4, ("lid", None, ("s",), ("grey", "yes"))), ("otto", 0, ("lid", None, ("s",), None))])

    def test_a_step_that_stays(self):
        here = ("lid", None, ("s",), ("red", "yes"))
        self.assertEqual(steps(KINDS, HANDS, here), [("anna", 4, here)])

    def test_at_rest(self):
        for here in (("box", None, None, None), ("lid", ("red", None), ("s",), None), ("lid", None, ("m",), None),
                     ("bag", (), None, None), ("bag", None, None, ()), ("knob", (), ("red", "no"), None),
                     ("tag", ("few",), (), ("all",))):
            self.assertEqual(steps(KINDS, HANDS, here), [], here)

    def test_no_hands(self):
        for kind in KINDS.order():
            for here in situations(KINDS, kind):
                self.assertEqual(steps(KINDS, [], here), [])
                self.assertEqual(steps(KINDS, [Hand("idle", [])], here), [])

    def test_all_lead_to_situations_alike_but_for_the_state(self):
        for kind in KINDS.order():
            every = situations(KINDS, kind)
            for here in every:
                for name, place, behind in steps(KINDS, HANDS, here):
                    self.assertIn(behind, every)
                    self.assertEqual(behind[:3], here[:3])
                    self.assertIs(place.__class__, int)
                    self.assertIn(name, ("anna", "otto"))

    def test_a_new_list_each_time_and_nothing_changed(self):
        here = ("box", ("m",), None, ("s",))
        hands = list(HANDS)
        told = steps(hands=hands, situation=here, kinds=KINDS)
        self.assertIs(told.__class__, list)
        told.clear()
        self.assertEqual(len(steps(KINDS, hands, here)), 2)
        self.assertEqual(hands, HANDS)

    def refuses(self, thing, kinds=KINDS, hands=None):
        with self.assertRaises(NoSituation, msg=thing) as caught:
            steps(kinds, [] if hands is None else hands, thing)
        self.assertIs(caught.exception.__class__, NoSituation)

    def test_no_tuples(self):
        for thing in NO_TEXTS + ["", "box", ["box", None, None, None], {"box": None}, AlikeKey(), KINDS]:
            self.refuses(thing)
            self.refuses(thing, hands=HANDS)

    def test_too_few_and_too_many_parts(self):
        for thing in ((), ("bag",), ("bag", None), ("bag", None, None), ("bag", None, None, None, None),
                      ("bag", None, None, (), ()), (("bag", None, None, None),)):
            self.refuses(thing)

    def test_strange_kinds(self):
        for thing in NO_NAMES + ["cup", "boxx", "anna", KINDS.of("bag"), AlikeKey(), ("bag",)]:
            self.refuses((thing, None, None, None))

    def test_wished_that_is_none(self):
        for wished in ((), ("s", "s"), (None, None), ("l",), ("few",), ("",), (True,), (1,), (("s",),), ["s"], [None],
                       "s", "", 0, 1, True, False, {}, (["s"],), ({},), Alike(), AlikeKey(), (Alike(),), (AlikeKey(),)):
            self.refuses(("box", wished, None, None))
            self.refuses(("box", wished, None, ("s",)))
        for wished in ((None,), ("no", "red"), ("red",), ("red", "no", None), ("red", "red")):
            self.refuses(("lid", wished, ("s",), None))
        self.refuses(("bag", (None,), None, None))

    def test_owners_states_that_are_none(self):
        for state in ((), ("s",), ("few",), "", 0, False, [], Alike(), AlikeKey()):
            self.refuses(("box", None, state, None))
            self.refuses(("bag", None, state, None))
        for state in (None, (), ("l",), ("s", "m"), ("red", "no"), (None,), "s", ["s"], 0, True, Alike(), AlikeKey(),
                      (Alike(),), (["s"],)):
            self.refuses(("lid", None, state, None))
        for state in (None, ("few",), (None,), [], "", 0, False, Alike()):
            self.refuses(("tag", None, state, None))

    def test_states_that_are_none(self):
        for state in ((), ("l",), ("s", "m"), (None,), "s", "", ["s"], 0, False, True, {}, Alike(), AlikeKey(),
                      (Alike(),), (AlikeKey(),), (["s"],)):
            self.refuses(("box", None, None, state))
        for state in ((None,), ("s",), [], "", 0, False, Alike()):
            self.refuses(("bag", None, None, state))

    def test_the_same_hands_with_other_kinds(self):
        kinds = Kinds([Kind("lid", [("shut", ["ajar", "yes"]), ("colour", ["blue", "grey"])], "box"),
                       Kind("box", [("size", ["l", "m", "s"])]), Kind("bag", []), Kind("tag", [])])
        self.assertEqual(steps(kinds, HANDS, ("lid", ("yes", None), ("m",), None)), [
            ("anna", 3, ("lid", ("yes", None), ("m",), ("yes", "blue")))])
        self.assertEqual(steps(kinds, HANDS, ("lid", None, ("l",), ("ajar", "grey"))), [
            ("anna", 4, ("lid", None, ("l",), ("yes", "grey"))), ("otto", 0, ("lid", None, ("l",), None))])
        self.refuses(("lid", None, ("l",), ("red", "no")), kinds, HANDS)
        self.refuses(("lid", None, ("l",), ("ajar", "grey")), KINDS, HANDS)
        self.refuses(("tag", None, None, None), KINDS, HANDS)
        self.assertEqual(steps(kinds, HANDS, ("tag", None, None, None)), [])

    def test_hands_that_are_none_or_do_not_suit(self):
        def refuses(hands, here):
            with self.assertRaises(NoRule, msg=hands) as caught:
                steps(KINDS, hands, here)
            self.assertIs(caught.exception.__class__, NoRule)
        # NoRule comes ahead of NoSituation.
        for here in (("bag", None, None, None), None, ("cup", None, None, None)):
            for thing in NO_LISTS + [ANNA, (ANNA,)]:
                refuses(thing, here)
            for thing in NO_TEXTS + ["anna", rule("box", ToTake())]:
                refuses([ANNA, thing], here)
            refuses([ANNA, Hand("anna", [])], here)
            refuses([ANNA, Hand("otto", [rule("cup", ToTake())])], here)
            refuses([Hand("otto", [rule("box", ToTake(), Owner("size", "s"))])], here)
            refuses([Hand("otto", [rule("knob", ToTake(), Meets("size"))])], here)


class Right(unittest.TestCase):
    def test_all_four_ways(self):
        self.assertIs(is_right(("box", None, None, None)), True)
        self.assertIs(is_right(("box", None, None, ("s",))), False)
        self.assertIs(is_right(("box", ("s",), None, None)), False)
        self.assertIs(is_right(("box", (None,), None, None)), False)
        self.assertIs(is_right(("box", ("s",), None, ("s",))), True)
        self.assertIs(is_right(("box", (None,), None, ("s",))), True)
        self.assertIs(is_right(("box", ("m",), None, ("s",))), False)

    def test_several_fields(self):
        self.assertIs(is_right(("lid", ("red", None), ("s",), ("red", "no"))), True)
        self.assertIs(is_right(("lid", (None, "yes"), ("s",), ("red", "no"))), False)
        self.assertIs(is_right(("lid", ("grey", "no"), ("s",), ("red", "no"))), False)
        self.assertIs(is_right(("lid", (None, None), ("m",), ("red", "no"))), True)

    def test_no_fields(self):
        self.assertIs(is_right(("bag", (), None, ())), True)
        self.assertIs(is_right(("bag", (), None, None)), False)
        self.assertIs(is_right(("bag", None, None, ())), False)
        self.assertIs(is_right(situation=("bag", None, None, None)), True)

    def test_the_owners_state_does_not_matter(self):
        for owner in (("s",), ("m",)):
            self.assertIs(is_right(("lid", None, owner, None)), True)


if __name__ == "__main__":
    unittest.main()
