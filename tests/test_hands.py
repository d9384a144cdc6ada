"""Points [2], [19], [20]: hands, what suits kinds, and the deeds that a hand tells by a look."""

import inspect
import unittest

from cometorest.conditions import Always, Both, Either, Is, Meets, Not, Owner, Wanted
from cometorest.deeds import Deed, Make, Set, Take
from cometorest.errors import NoRule
from cometorest.hands import Hand, check, deed, deeds
from cometorest.kinds import Kind, Kinds
from cometorest.rules import Rule, ToMake, ToSet, ToTake
from cometorest.wishes import Wishes
from cometorest.world import World
from tests.strange import NO_LISTS, NO_NAMES, NO_TEXTS

KINDS = Kinds([
    Kind("box", [("size", ["s", "m", "l"])]),
    Kind("lid", [("colour", ["red", "grey"]), ("shut", ["no", "yes"])], "box"),
    Kind("knob", [], "lid"),
    Kind("bag", []),
    Kind("tag", [("size", ["few", "many"])], "bag"),
])


def rule(kind, change, condition=None, behind=None):
    return Rule(kind, change, Always() if condition is None else condition, [] if behind is None else behind)


def hand(*rules):
    return Hand("anna", list(rules))


def all_of(kinds=("box", "lid", "knob", "bag", "tag")):
    """A hand that makes what is wished, sets nothing, and takes what isn't."""
    rules = []
    for kind in kinds:
        rules += [rule(kind, ToMake([])), rule(kind, ToTake(), Not(Wanted()))]
    return hand(*rules)


def make_world(things=(), rows=(), limits=None):
    world = World(KINDS, limits)
    for name, state in things:
        world.put(name, state)
    if rows:
        world.tell(Wishes(KINDS, list(rows)))
    return world


class Made(unittest.TestCase):
    def refuses(self, *handed):
        with self.assertRaises(NoRule, msg=handed) as caught:
            Hand(*handed)
        self.assertIs(caught.exception.__class__, NoRule)

    def test_fields(self):
        rules = [rule("box", ToTake()), rule("lid", ToMake([]))]
        made = Hand("anna", rules)
        self.assertEqual(list(vars(made)), ["name", "rules"])
        self.assertEqual(made.name, "anna")
        self.assertEqual([one.kind for one in made.rules], ["box", "lid"])
        self.assertIs(made.rules.__class__, list)
        self.assertEqual(Hand(rules=[], name="otto").rules, [])
        self.assertEqual(list(inspect.signature(Hand).parameters), ["name", "rules"])

    def test_a_name_that_is_none(self):
        for thing in NO_NAMES:
            self.refuses(thing, [])

    def test_rules_that_are_no_list(self):
        one = rule("box", ToTake())
        for thing in NO_LISTS + [one, (one,), {"box": one}, hand(one)]:
            self.refuses("anna", thing)

    def test_what_is_no_rule(self):
        one = rule("box", ToTake())
        for thing in NO_TEXTS + ["on box : take : always", "", Rule, ToTake(), Always(), [one], (one,), hand(one)]:
            self.refuses("anna", [thing])
            self.refuses("anna", [one, thing])
            self.refuses("anna", [thing, one])

    def test_a_list_changed_behind_changes_nothing(self):
        rules = [rule("box", ToTake())]
        made = Hand("anna", rules)
        rules.append(rule("box", ToMake([])))
        self.assertEqual(len(made.rules), 1)
        rules.clear()
        self.assertEqual(len(made.rules), 1)
        self.assertIsNot(Hand("otto", made.rules).rules, made.rules)

    def test_what_is_handed_in_is_not_changed(self):
        one = rule("box", ToTake())
        rules = [one, one]
        Hand("anna", rules)
        self.assertEqual(rules, [one, one])
        rules.append(None)
        self.refuses("anna", rules)
        self.assertEqual(rules, [one, one, None])


class Checked(unittest.TestCase):
    def refuses(self, hands):
        with self.assertRaises(NoRule, msg=hands) as caught:
            check(KINDS, hands)
        self.assertIs(caught.exception.__class__, NoRule)

    def suits(self, *rules):
        self.assertIsNone(check(KINDS, [Hand("anna", list(rules))]))
        look = make_world([("box.0", ("s",))]).look()
        self.assertIs(deeds(KINDS, Hand("anna", list(rules)), look).__class__, list)

    def suits_not(self, one):
        good = rule("box", ToTake())
        for rules in ([one], [good, one], [one, good]):
            made = Hand("anna", rules)
            self.refuses([made])
            self.refuses([Hand("otto", [good]), made])
            look = make_world([("box.0", ("s",))]).look()
            for asked in (deeds, deed):
                with self.assertRaises(NoRule):
                    asked(KINDS, made, look)

    def test_lists_of_hands(self):
        self.assertIsNone(check(KINDS, []))
        self.assertIsNone(check(KINDS, [Hand("anna", [])]))
        self.assertIsNone(check(hands=[Hand("anna", []), Hand("otto", [rule("box", ToTake())])], kinds=KINDS))

    def test_what_is_no_list(self):
        for thing in NO_LISTS + [hand(), (hand(),), {"anna": hand()}]:
            self.refuses(thing)

    def test_what_is_no_hand(self):
        for thing in NO_TEXTS + ["anna", "", Hand, [hand()], rule("box", ToTake()), Always()]:
            self.refuses([thing])
            self.refuses([Hand("otto", []), thing])
            self.refuses([thing, Hand("otto", [])])
            look = make_world().look()
            for asked in (deeds, deed):
                with self.assertRaises(NoRule, msg=thing) as caught:
                    asked(KINDS, thing, look)
                self.assertIs(caught.exception.__class__, NoRule)

    def test_two_of_one_name(self):
        self.refuses([Hand("anna", []), Hand("anna", [])])
        self.refuses([Hand("anna", []), Hand("otto", []), Hand("anna", [rule("box", ToTake())])])
        one = Hand("anna", [])
        self.refuses([one, one])

    def test_the_list_is_not_changed(self):
        hands = [Hand("otto", []), Hand("anna", [])]
        ahead = list(hands)
        check(KINDS, hands)
        self.assertEqual(hands, ahead)

    def test_kinds_of_a_rule(self):
        self.suits(rule("box", ToTake()), rule("tag", ToTake(), behind=["box", "lid", "knob", "bag"]))
        self.suits_not(rule("cup", ToTake()))
        self.suits_not(rule("box", ToTake(), behind=["cup"]))
        self.suits_not(rule("box", ToTake(), behind=["lid", "cup"]))

    def test_a_making(self):
        self.suits(rule("lid", ToMake([])), rule("lid", ToMake(["shut", "colour"])), rule("bag", ToMake([])))
        self.suits_not(rule("lid", ToMake(["size"])))
        self.suits_not(rule("lid", ToMake(["shut", "weight"])))
        self.suits_not(rule("bag", ToMake(["size"])))

    def test_a_setting(self):
        self.suits(rule("lid", ToSet("shut", "yes")), rule("lid", ToSet("colour", None)))
        self.suits(rule("tag", ToSet("size", "few")), rule("box", ToSet("size", "s")))
        self.suits_not(rule("lid", ToSet("size", "s")))
        self.suits_not(rule("lid", ToSet("size", None)))
        self.suits_not(rule("lid", ToSet("weight", None)))
        self.suits_not(rule("lid", ToSet("shut", "red")))
        self.suits_not(rule("lid", ToSet("shut", "never")))
        self.suits_not(rule("tag", ToSet("size", "s")))

    def test_a_taking(self):
        self.suits(rule("bag", ToTake()), rule("knob", ToTake()))

    def conditions(self, kind, right, wrong):
        for condition in right:
            self.suits(rule(kind, ToTake(), condition))
        for condition in wrong:
            for nest in (
                condition, Not(condition), Not(Not(condition)),
                Both([condition, Always()]), Both([Always(), condition]),
                Either([condition, Always()]), Either([Always(), condition]),
                Not(Both([Wanted(), Either([Always(), condition])])),
            ):
                self.suits_not(rule(kind, ToTake(), nest))
        self.suits(rule(kind, ToTake(), Both([Either(right * 2), Not(Both(right * 2))])))

    def test_conditions_of_an_owned_kind(self):
        self.conditions("lid", [
            Always(), Wanted(), Is("colour", "grey"), Is("shut", "no"), Meets("colour"), Meets("shut"),
            Owner("size", "l"),
        ], [
            Is("size", "l"), Is("colour", "no"), Is("shut", "never"), Is("weight", "no"),
            Meets("size"), Meets("weight"),
            Owner("size", "xl"), Owner("colour", "red"), Owner("shut", "no"), Owner("weight", "s"),
        ])

    def test_conditions_of_a_kind_without_owner(self):
        self.conditions("box", [Always(), Wanted(), Is("size", "l"), Meets("size")], [
            Is("shut", "no"), Is("size", "few"), Meets("shut"), Owner("size", "l"), Owner("size", "s"),
        ])

    def test_conditions_of_kinds_without_fields(self):
        self.conditions("bag", [Always(), Wanted()], [Is("size", "s"), Meets("size"), Owner("size", "s")])
        self.conditions("knob", [Owner("shut", "no"), Owner("colour", "red")], [
            Is("shut", "no"), Meets("shut"), Owner("size", "s"),
        ])
        self.conditions("tag", [Is("size", "few")], [Owner("size", "few"), Is("size", "s")])


class Deeds(unittest.TestCase):
    def told(self, world, one):
        """Each deed's class and parts; also that deed tells the first of them."""
        look = world.look()
        found = deeds(KINDS, one, look)
        self.assertIs(found.__class__, list)
        for each in found:
            self.assertIsInstance(each, Deed)
        parts = [(each.__class__, *each.parts()) for each in found]
        first = deed(KINDS, one, look)
        if not found:
            self.assertIsNone(first)
        else:
            self.assertEqual((first.__class__, *first.parts()), parts[0])
        return parts

    def names(self, world, one):
        return [(parts[0], parts[4]) for parts in self.told(world, one)]

    def test_no_deed(self):
        self.assertEqual(self.told(make_world(), hand()), [])
        self.assertEqual(self.told(make_world(), all_of()), [])
        self.assertEqual(self.told(make_world([("box.0", ("s",))], [("box", 1, []), ("bag", 1, [])]), hand()), [])

    def test_by_the_names_of_their_arguments(self):
        world = make_world(rows=[("bag", 1, [])])
        self.assertEqual(len(deeds(look=world.look(), hand=all_of(), kinds=KINDS)), 1)
        self.assertEqual(deed(look=world.look(), hand=all_of(), kinds=KINDS).parts(), ("anna", 1, 1, "bag.0", None, ()))
        self.assertEqual(list(inspect.signature(deeds).parameters), ["kinds", "hand", "look"])
        self.assertEqual(list(inspect.signature(deed).parameters), ["kinds", "hand", "look"])

    def test_a_making(self):
        world = make_world([("box.0", ("s",))], [("box", 1, []), ("lid", 1, [("colour", "grey"), ("shut", "yes")])])
        for fields, state in (([], ("red", "no")), (["shut"], ("red", "yes")), (["shut", "colour"], ("grey", "yes"))):
            self.assertEqual(self.told(world, hand(rule("lid", ToMake(fields)))),
                             [(Make, "anna", 1, 1, "box.0.lid.0", 1, state)])

    def test_a_making_without_owner(self):
        world = make_world(rows=[("box", 1, [("size", "l")])])
        self.assertEqual(self.told(world, hand(rule("box", ToMake(["size"])))),
                         [(Make, "anna", 1, 1, "box.0", None, ("l",))])

    def test_a_setting(self):
        world = make_world([("box.0", ("s",)), ("box.0.lid.0", ("red", "no"))],
                           [("box", 1, []), ("lid", 1, [("shut", "yes")])])
        self.assertEqual(self.told(world, hand(rule("lid", ToSet("shut", "no")))),
                         [(Set, "anna", 1, 1, "box.0.lid.0", 2, 1, "shut", "no")])
        self.assertEqual(self.told(world, hand(rule("lid", ToSet("shut", None)))),
                         [(Set, "anna", 1, 1, "box.0.lid.0", 2, 1, "shut", "yes")])
        self.assertEqual(self.told(world, hand(rule("lid", ToSet("colour", None)))), [])
        self.assertEqual(self.told(world, hand(rule("box", ToSet("size", "m")))),
                         [(Set, "anna", 1, 1, "box.0", 1, None, "size", "m")])

    def test_a_taking(self):
        world = make_world([("box.0", ("s",)), ("box.0.lid.7", ("red", "no"))])
        self.assertEqual(self.told(world, hand(rule("lid", ToTake()))), [(Take, "anna", 1, 0, "box.0.lid.7", 2, 1)])
        self.assertEqual(self.told(world, hand(rule("box", ToTake()))), [(Take, "anna", 1, 0, "box.0", 1, None)])

    def test_by_names_sorted_then_by_rules(self):
        world = make_world(
            [("box.10", ("s",)), ("box.2", ("m",)), ("box.0", ("l",)), ("box.0.lid.3", ("red", "no")), ("bag.5", ())],
            [("box", 2, [])],
        )
        one = hand(rule("lid", ToTake()), rule("box", ToTake()), rule("box", ToMake([])), rule("bag", ToTake()),
                   rule("box", ToSet("size", "m"), Is("size", "l")))
        self.assertEqual(self.names(world, one), [
            (Take, "bag.5"), (Take, "box.0"), (Set, "box.0"), (Take, "box.0.lid.3"), (Make, "box.1"), (Take, "box.10"),
            (Take, "box.2"),
        ])

    def test_the_rules_order_is_the_hands(self):
        world = make_world([("box.0", ("s",))])
        one = [rule("box", ToSet("size", "m")), rule("box", ToTake()), rule("box", ToSet("size", "l"))]
        self.assertEqual([parts[0] for parts in self.told(world, hand(*one))], [Set, Take, Set])
        self.assertEqual([parts[0] for parts in self.told(world, hand(one[1], one[2], one[0]))], [Take, Set, Set])

    def test_one_rule_twice(self):
        world = make_world([("box.0", ("s",))])
        one = rule("box", ToTake())
        self.assertEqual(self.names(world, hand(one, one)), [(Take, "box.0"), (Take, "box.0")])

    def test_all_deeds_of_a_look_have_one_number(self):
        world = make_world(rows=[("bag", 3, [])])
        self.assertEqual([parts[2] for parts in self.told(world, all_of())], [1, 1, 1])

    def test_things_that_are_wished_and_not_there(self):
        world = make_world([("bag.1", ())], [("bag", 3, [])])
        self.assertEqual(self.names(world, all_of()), [(Make, "bag.0"), (Make, "bag.2")])

    def test_things_that_are_there_and_not_wished(self):
        world = make_world([("bag.1", ()), ("bag.7", ())], [("bag", 3, [])])
        self.assertEqual(self.names(world, hand(rule("bag", ToTake(), Not(Wanted())))), [(Take, "bag.7")])

    def test_owners_that_are_not_there(self):
        world = make_world([("box.0", ("s",))], [("box", 2, []), ("lid", 1, []), ("knob", 1, [])])
        self.assertEqual(self.names(world, all_of()), [(Make, "box.0.lid.0"), (Make, "box.1")])
        world.put("box.0.lid.0", ("red", "no"))
        self.assertEqual(self.names(world, all_of()), [(Make, "box.0.lid.0.knob.0"), (Make, "box.1")])

    def test_conditions_are_asked_of_the_things_own_situation(self):
        world = make_world(
            [("box.0", ("s",)), ("box.0.lid.0", ("red", "no")), ("box.0.lid.1", ("red", "yes")), ("box.1", ("l",)),
             ("box.1.lid.0", ("grey", "no")), ("box.1.lid.9", ("red", "no"))],
            [("box", 2, []), ("lid", 1, [("shut", "yes")]), ("lid", 1, [("colour", "red")])],
        )
        for condition, names in (
            (Owner("size", "s"), ["box.0.lid.0", "box.0.lid.1"]),
            (Owner("size", "l"), ["box.1.lid.0", "box.1.lid.9"]),
            (Wanted(), ["box.0.lid.0", "box.0.lid.1", "box.1.lid.0"]),
            (Not(Wanted()), ["box.1.lid.9"]),
            (Is("shut", "yes"), ["box.0.lid.1"]),
            (Meets("shut"), ["box.0.lid.1"]),
            (Both([Wanted(), Not(Meets("shut"))]), ["box.0.lid.0", "box.1.lid.0"]),
            (Either([Is("colour", "grey"), Owner("size", "s")]), ["box.0.lid.0", "box.0.lid.1", "box.1.lid.0"]),
        ):
            told = self.names(world, hand(rule("lid", ToTake(), condition)))
            self.assertEqual(told, [(Take, name) for name in names])

    def test_marks(self):
        world = make_world([("box.0", ("s",)), ("box.0.lid.0", ("red", "no")), ("box.0.lid.0.knob.0", ())],
                           [("box", 1, []), ("lid", 2, [])])
        world.do(Set("otto", 1, 1, "box.0.lid.0", 2, 1, "shut", "yes"))
        world.do(Set("otto", 2, 1, "box.0", 1, None, "size", "s"))
        one = hand(rule("box", ToTake()), rule("lid", ToTake()), rule("lid", ToMake([])), rule("knob", ToTake()))
        self.assertEqual(self.told(world, one), [
            (Take, "anna", 1, 1, "box.0", 5, None),
            (Take, "anna", 1, 1, "box.0.lid.0", 4, 5),
            (Take, "anna", 1, 1, "box.0.lid.0.knob.0", 3, 4),
            (Make, "anna", 1, 1, "box.0.lid.1", 5, ("red", "no")),
        ])

    def test_wishing_and_number(self):
        world = make_world([("bag.0", ()), ("bag.1", ()), ("bag.2", ())])
        one = hand(rule("bag", ToTake()))
        for number in (1, 2, 3):
            world.tell(Wishes(KINDS, []))
            first = deed(KINDS, one, world.look())
            self.assertEqual(first.parts()[:3], ("anna", number, number))
            self.assertEqual(world.do(first), "done")
        self.assertIsNone(deed(KINDS, one, world.look()))

    def test_the_number_is_one_above_its_own_last_one(self):
        world = make_world([("bag.0", ()), ("bag.1", ()), ("bag.2", ())])
        self.assertEqual(world.do(Take("anna", 7, 0, "bag.0", 1, None)), "done")
        self.assertEqual(world.do(Take("otto", 9, 0, "bag.1", 2, None)), "done")
        self.assertEqual(self.told(world, hand(rule("bag", ToTake()))), [(Take, "anna", 8, 0, "bag.2", 3, None)])
        self.assertEqual(self.told(world, Hand("eve", [rule("bag", ToTake())]))[0][1:3], ("eve", 1))

    def test_a_kind_at_its_limit(self):
        rows = [("bag", 2, []), ("box", 1, [])]
        one = hand(rule("bag", ToMake([])), rule("box", ToMake([])), rule("bag", ToTake(), Not(Wanted())))
        self.assertEqual(self.names(make_world([], rows, {"bag": 0}), one), [(Make, "box.0")])
        self.assertEqual(self.names(make_world([], rows, {"bag": 1}), one),
                         [(Make, "bag.0"), (Make, "bag.1"), (Make, "box.0")])
        world = make_world([("bag.7", ())], rows, {"bag": 1})
        self.assertEqual(self.names(world, one), [(Take, "bag.7"), (Make, "box.0")])
        world = make_world([("bag.7", ())], rows, {"bag": 2, "box": 0})
        self.assertEqual(self.names(world, one), [(Make, "bag.0"), (Make, "bag.1"), (Take, "bag.7")])

    def test_settings_at_a_limit(self):
        world = make_world([("box.0", ("s",))], [], {"box": 1})
        self.assertEqual(self.names(world, hand(rule("box", ToSet("size", "m")), rule("box", ToTake()))),
                         [(Set, "box.0"), (Take, "box.0")])

    def test_an_elder_look(self):
        world = make_world([("bag.0", ()), ("bag.1", ())])
        elder = world.look()
        one = hand(rule("bag", ToTake(), Not(Wanted())), rule("bag", ToMake([])))
        self.assertEqual(world.do(deed(KINDS, one, elder)), "done")
        self.assertEqual([each.parts() for each in deeds(KINDS, one, elder)],
                         [("anna", 1, 0, "bag.0", 1, None), ("anna", 1, 0, "bag.1", 2, None)])
        self.assertEqual(world.do(deed(KINDS, one, elder)), "old")
        world.tell(Wishes(KINDS, [("bag", 1, [])]))
        self.assertEqual(deed(KINDS, one, elder).parts(), ("anna", 1, 0, "bag.0", 1, None))
        self.assertEqual([each.parts() for each in deeds(KINDS, one, world.look())],
                         [("anna", 2, 1, "bag.0", None, ()), ("anna", 2, 1, "bag.1", 2, None)])

    def test_asking_changes_nothing(self):
        world = make_world([("box.0", ("s",))], [("bag", 1, [])])
        look = world.look()
        one = all_of()
        first = [each.parts() for each in deeds(KINDS, one, look)]
        deeds(KINDS, one, look).clear()
        self.assertEqual([each.parts() for each in deeds(KINDS, one, look)], first)
        self.assertEqual(look.names(), ["box.0"])
        self.assertEqual(len(one.rules), 10)

    def test_what_it_does_leads_to_what_is_wished(self):
        world = make_world([("box.5", ("s",)), ("bag.0", ())],
                           [("box", 2, []), ("lid", 1, []), ("knob", 2, [])])
        for turn in range(20):
            first = deed(KINDS, all_of(), world.look())
            if first is None:
                break
            self.assertEqual(world.do(first), "done")
        self.assertEqual(world.look().names(), world.look().wanted().names())
        self.assertEqual(turn, 2 + 2 * (1 + 1 + 2))


class Behind(unittest.TestCase):
    def is_told(self, behind, things, rows):
        world = make_world(things, rows + [("bag", 1, [])])
        one = hand(rule("bag", ToMake([]), behind=behind))
        return deeds(KINDS, one, world.look()) != []

    def test_nothing_wished_and_nothing_there_is_settled(self):
        self.assertTrue(self.is_told([], [], []))
        self.assertTrue(self.is_told(["box"], [], []))
        self.assertTrue(self.is_told(["box", "lid", "knob", "tag"], [], []))

    def test_a_wished_thing_that_is_not_there(self):
        self.assertFalse(self.is_told(["box"], [], [("box", 1, [])]))
        self.assertFalse(self.is_told(["box"], [("box.0", ("s",))], [("box", 2, [])]))
        self.assertTrue(self.is_told(["box"], [("box.0", ("s",)), ("box.1", ("m",))], [("box", 2, [])]))

    def test_a_wished_thing_whose_state_does_not_fit(self):
        self.assertFalse(self.is_told(["box"], [("box.0", ("s",))], [("box", 1, [("size", "m")])]))
        self.assertTrue(self.is_told(["box"], [("box.0", ("m",))], [("box", 1, [("size", "m")])]))
        self.assertTrue(self.is_told(["box"], [("box.0", ("l",))], [("box", 1, [])]))

    def test_a_thing_that_is_not_wished(self):
        self.assertFalse(self.is_told(["box"], [("box.0", ("s",))], []))
        self.assertFalse(self.is_told(["box"], [("box.0", ("s",)), ("box.7", ("s",))], [("box", 1, [])]))

    def test_owned_kinds(self):
        rows = [("box", 1, []), ("lid", 1, [("shut", "yes")])]
        box = ("box.0", ("s",))
        self.assertFalse(self.is_told(["lid"], [], rows))
        self.assertFalse(self.is_told(["lid"], [box], rows))
        self.assertFalse(self.is_told(["lid"], [box, ("box.0.lid.0", ("red", "no"))], rows))
        self.assertTrue(self.is_told(["lid"], [box, ("box.0.lid.0", ("red", "yes"))], rows))
        self.assertTrue(self.is_told(["box"], [box], rows))
        self.assertFalse(self.is_told(["lid"], [box, ("box.7", ("s",)), ("box.0.lid.0", ("red", "yes")),
                                               ("box.7.lid.0", ("red", "yes"))], rows))

    def test_a_wished_thing_whose_owner_is_not_there(self):
        self.assertFalse(self.is_told(["knob"], [], [("box", 1, []), ("lid", 1, []), ("knob", 1, [])]))

    def test_all_of_them_are_to_be_settled(self):
        rows = [("box", 1, []), ("lid", 1, [])]
        for behind in (["box", "lid"], ["lid", "box"]):
            self.assertFalse(self.is_told(behind, [("box.0", ("s",))], rows))
            self.assertTrue(self.is_told(behind, [("box.0", ("s",)), ("box.0.lid.0", ("red", "no"))], rows))
        self.assertTrue(self.is_told(["box"], [("box.0", ("s",))], rows))
        self.assertTrue(self.is_told(["knob", "tag"], [("box.0", ("s",))], rows))

    def test_other_kinds_are_not_looked_at(self):
        self.assertTrue(self.is_told(["box"], [], [("lid", 1, [])]))
        self.assertTrue(self.is_told(["lid"], [("box.0", ("s",))], []))

    def test_each_rule_has_its_own(self):
        world = make_world([("box.0", ("s",)), ("bag.0", ())])
        one = hand(rule("bag", ToTake(), behind=["box"]), rule("bag", ToTake(), behind=["lid"]),
                   rule("box", ToTake(), behind=["bag"]))
        self.assertEqual([each.parts() for each in deeds(KINDS, one, world.look())], [("anna", 1, 0, "bag.0", 2, None)])
        self.assertEqual(world.do(deed(KINDS, one, world.look())), "done")
        self.assertEqual(deed(KINDS, one, world.look()).parts(), ("anna", 2, 0, "box.0", 1, None))

    def test_behind_by_the_look(self):
        world = make_world([("box.0", ("s",)), ("bag.0", ())])
        elder = world.look()
        one = hand(rule("bag", ToTake(), behind=["box"]))
        self.assertIsNone(deed(KINDS, one, elder))
        self.assertEqual(world.do(Take("otto", 1, 0, "box.0", 1, None)), "done")
        self.assertIsNone(deed(KINDS, one, elder))
        self.assertIsNotNone(deed(KINDS, one, world.look()))


if __name__ == "__main__":
    unittest.main()
