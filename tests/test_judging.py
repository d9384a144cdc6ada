"""Points [2], [33] to [36]: stuck situations, rings of waiting, the judge, and why a name isn't as wished."""

import inspect
import unittest

from cometorest.conditions import Always, Is, Meets, Not, Owner, Wanted
from cometorest.errors import NoRule
from cometorest.finding import sought
from cometorest.hands import Hand
from cometorest.judging import judge, ring, stuck, why
from cometorest.kinds import Kind, Kinds
from cometorest.papers import wrong_with
from cometorest.rules import Rule, ToMake, ToSet, ToTake
from cometorest.situations import is_right, situations, steps
from cometorest.wishes import Wishes
from cometorest.world import World
from tests.strange import NO_LISTS, NO_TEXTS

KINDS = Kinds([
    Kind("box", [("size", ["s", "m"])]),
    Kind("lid", [("shut", ["no", "yes"])], "box"),
    Kind("bag", []),
])
LOOSE = Kinds([Kind(name, []) for name in ("a", "b", "c", "d", "e")])


def rule(kind, change, condition=None, behind=()):
    return Rule(kind, change, Always() if condition is None else condition, list(behind))


def hand(name, *rules):
    return Hand(name, list(rules))


def tidy(kinds, name="tidy", without=(), behind=None):
    """Leads all to what is wished, but for the changes left out, told by kind and word."""
    rules = []
    for kind in kinds.order():
        waits = (behind or {}).get(kind, [])
        if (kind, "make") not in without:
            rules.append(rule(kind, ToMake([]), behind=waits))
        if (kind, "take") not in without:
            rules.append(rule(kind, ToTake(), Not(Wanted()), waits))
        if (kind, "set") not in without:
            for field in kinds.of(kind).fields:
                rules.append(rule(kind, ToSet(field[0], None), Not(Meets(field[0])), waits))
    return Hand(name, rules)


def all_situations(kinds):
    return [here for kind in kinds.order() for here in situations(kinds, kind)]


TURN = hand("turn", rule("box", ToSet("size", "s"), Is("size", "m")), rule("box", ToSet("size", "m"), Is("size", "s")))


class Stuck(unittest.TestCase):
    def test_none(self):
        self.assertEqual(stuck(KINDS, [tidy(KINDS)]), [])
        self.assertEqual(stuck(KINDS, [tidy(KINDS), TURN]), [])

    def test_without_hands_all_that_is_not_right(self):
        right = [here for here in all_situations(KINDS) if not is_right(here)]
        for hands in ([], [hand("idle")]):
            self.assertEqual(stuck(KINDS, hands), right)
        self.assertEqual(right[:2], [("bag", None, None, ()), ("bag", (), None, None)])

    def test_in_their_order(self):
        hands = [tidy(KINDS, without=[("bag", "make"), ("box", "take"), ("lid", "set")])]
        self.assertEqual(stuck(KINDS, hands), [
            ("bag", (), None, None),
            ("box", None, None, ("s",)), ("box", None, None, ("m",)),
            ("lid", ("no",), ("s",), ("yes",)), ("lid", ("no",), ("m",), ("yes",)),
            ("lid", ("yes",), ("s",), ("no",)), ("lid", ("yes",), ("m",), ("no",))])

    def test_kinds_in_their_order(self):
        kinds = Kinds([Kind("a", [], "z"), Kind("z", [])])
        self.assertEqual(stuck(kinds, []), [("z", None, None, ()), ("z", (), None, None),
                                            ("a", None, (), ()), ("a", (), (), None)])

    def test_wrong_with_steps_and_right_at_rest_are_not_stuck(self):
        for hands in ([TURN], [tidy(KINDS, without=[("bag", "make")]), TURN]):
            self.assertEqual(stuck(KINDS, hands), [
                here for here in all_situations(KINDS) if not steps(KINDS, hands, here) and not is_right(here)])

    def test_behind_is_not_looked_at(self):
        self.assertEqual(stuck(KINDS, [tidy(KINDS, behind={"box": ["lid", "bag"], "bag": ["box"]})]), [])

    def test_a_condition_by_the_owner(self):
        hands = [tidy(KINDS, without=[("lid", "take")]), hand("a", rule("lid", ToTake(), Owner("size", "s")))]
        # Wished ones that are right go, too, where the box is small, so a round is there; stuck are unwished ones.
        self.assertEqual(stuck(KINDS, hands), [("lid", None, ("m",), ("no",)), ("lid", None, ("m",), ("yes",))])

    def test_a_new_list_each_time(self):
        told = stuck(KINDS, [])
        self.assertIs(told.__class__, list)
        many = len(told)
        told.clear()
        self.assertEqual(len(stuck(kinds=KINDS, hands=[])), many)


class Ring(unittest.TestCase):
    def waits(self, kinds, hands):
        pairs = [(kind, kinds.of(kind).owner) for kind in kinds.order()]
        return pairs + [(one.kind, other) for doer in hands for one in doer.rules for other in one.behind]

    def is_a_ring(self, kinds, hands, names):
        self.assertIs(names.__class__, list)
        self.assertGreater(len(names), 0)
        self.assertEqual(len(set(names)), len(names))
        waits = self.waits(kinds, hands)
        for place, name in enumerate(names):
            self.assertIn((name, names[(place + 1) % len(names)]), waits, names)

    def behind(self, *pairs):
        return [hand("a", *[rule(kind, ToTake(), behind=others) for kind, others in pairs])]

    def test_none(self):
        for hands in ([], [hand("idle")], [tidy(LOOSE)], self.behind(("a", "b"), ("b", "c"), ("c", "d"), ("d", "e")),
                      self.behind(("a", "bcde"), ("b", "cde"), ("c", "de")), self.behind(("e", "abcd")),
                      self.behind(("a", "e"), ("b", "e"), ("c", "e"), ("d", "e"))):
            self.assertIsNone(ring(LOOSE, hands))
        self.assertIsNone(ring(KINDS, [tidy(KINDS)]))
        self.assertIsNone(ring(KINDS, [tidy(KINDS, behind={"lid": ["box", "bag"], "bag": ["box"]})]))

    def test_of_two(self):
        hands = self.behind(("b", "d"), ("d", "b"))
        names = ring(LOOSE, hands)
        self.is_a_ring(LOOSE, hands, names)
        self.assertEqual(sorted(names), ["b", "d"])

    def test_long_ones(self):
        hands = self.behind(("a", "d"), ("d", "b"), ("b", "e"), ("e", "c"), ("c", "a"))
        names = ring(LOOSE, hands)
        self.is_a_ring(LOOSE, hands, names)
        self.assertEqual(len(names), 5)

    def test_one_that_others_lead_to_and_that_leads_on(self):
        # a waits for b, b and c for one another, c for d and d for e.
        hands = self.behind(("a", "b"), ("b", "c"), ("c", "db"), ("d", "e"))
        names = ring(LOOSE, hands)
        self.is_a_ring(LOOSE, hands, names)
        self.assertEqual(sorted(names), ["b", "c"])

    def test_several_hands_and_rules(self):
        hands = [hand("x", rule("a", ToMake([])), rule("a", ToTake(), behind=["b"])), hand("idle"),
                 hand("y", rule("b", ToTake(), Wanted(), ["c"])), hand("z", rule("c", ToMake([]), behind=["e", "a"]))]
        names = ring(LOOSE, hands)
        self.is_a_ring(LOOSE, hands, names)
        self.assertEqual(sorted(names), ["a", "b", "c"])

    def test_by_way_of_owners(self):
        hands = [tidy(KINDS, behind={"box": ["lid"]})]
        names = ring(KINDS, hands)
        self.is_a_ring(KINDS, hands, names)
        self.assertEqual(sorted(names), ["box", "lid"])
        deep = Kinds([Kind("a", []), Kind("b", [], "a"), Kind("c", [], "b"), Kind("d", [])])
        hands = [hand("x", rule("a", ToTake(), behind=["d"])), hand("y", rule("d", ToTake(), behind=["c"]))]
        names = ring(deep, hands)
        self.is_a_ring(deep, hands, names)
        self.assertEqual(sorted(names), ["a", "b", "c", "d"])
        # Owned kinds don't keep their owners waiting.
        self.assertIsNone(ring(deep, [hand("x", rule("d", ToTake(), behind=["a", "b", "c"]))]))

    def test_rules_that_can_never_be_used_wait_too(self):
        never = [hand("x", rule("a", ToTake(), Not(Always()), ["b"]), rule("b", ToTake(), Not(Always()), ["a"]))]
        self.is_a_ring(LOOSE, never, ring(LOOSE, never))

    def test_all_sets_of_waiting_of_three(self):
        kinds = Kinds([Kind(name, []) for name in "abc"])
        pairs = [(left, right) for left in "abc" for right in "abc" if left != right]
        for bits in range(64):
            chosen = [pair for place, pair in enumerate(pairs) if bits >> place & 1]
            hands = self.behind(*chosen)
            reach = set(chosen)
            for _ in range(3):
                reach |= {(left, right) for left, amid in reach for other, right in reach if amid == other}
            names = ring(kinds, hands)
            if any(left == right for left, right in reach):
                self.is_a_ring(kinds, hands, names)
            else:
                self.assertIsNone(names)

    def test_a_new_list_each_time(self):
        hands = self.behind(("b", "d"), ("d", "b"))
        ring(LOOSE, hands).clear()
        self.assertEqual(len(ring(hands=hands, kinds=LOOSE)), 2)
        self.assertEqual([one.behind for one in hands[0].rules], [["d"], ["b"]])


class Judged(unittest.TestCase):
    WAITS = {"box": ["bag"], "bag": ["box"]}

    def test_rests(self):
        for hands in ([tidy(KINDS)], [tidy(KINDS, "b"), tidy(KINDS, "a", behind={"lid": ["bag", "box"]})]):
            told = judge(KINDS, hands)
            self.assertIs(told.__class__, tuple)
            self.assertEqual((len(told), told[0]), (2, "rests"))
            self.assertEqual(told[1], sought(KINDS, hands)[1])
            self.assertIsNone(wrong_with(KINDS, hands, told[1]))

    def test_a_ring(self):
        told = judge(KINDS, [tidy(KINDS, behind=self.WAITS)])
        self.assertEqual((len(told), told[0]), (2, "ring"))
        self.assertEqual(sorted(told[1]), ["bag", "box"])

    def test_stuck_ahead_of_a_ring(self):
        hands = [tidy(KINDS, without=[("lid", "take"), ("box", "make")])]
        self.assertEqual(judge(KINDS, hands), ("stuck", ("box", (None,), None, None)))
        hands = [tidy(KINDS, without=[("lid", "take"), ("box", "make")], behind=self.WAITS)]
        self.assertEqual(judge(KINDS, hands), ("stuck", ("box", (None,), None, None)))
        self.assertEqual(judge(KINDS, []), ("stuck", ("bag", None, None, ())))

    def test_a_round_ahead_of_all(self):
        for hands in ([TURN], [tidy(KINDS), TURN], [tidy(KINDS, behind=self.WAITS), TURN],
                      [tidy(KINDS, without=[("bag", "make")], behind=self.WAITS), TURN]):
            told = judge(KINDS, hands)
            self.assertEqual((len(told), told[0]), (3, "round"))
            here = told[1]
            for name, place in told[2]:
                here = [step[2] for step in steps(KINDS, hands, here) if step[:2] == (name, place)][0]
            self.assertEqual(here, told[1])

    def test_the_told_is_the_askers_own(self):
        judge(KINDS, [tidy(KINDS)])[1].clear()
        self.assertEqual(len(judge(KINDS, [tidy(KINDS)])[1]), len(all_situations(KINDS)))
        judge(KINDS, [tidy(KINDS, behind=self.WAITS)])[1].clear()
        self.assertEqual(len(judge(KINDS, [tidy(KINDS, behind=self.WAITS)])[1]), 2)

    def test_hands_that_are_none_or_do_not_suit(self):
        for asked in (stuck, ring, judge):
            self.assertEqual(list(inspect.signature(asked).parameters), ["kinds", "hands"])
            for hands in NO_LISTS + [TURN, (TURN,)] + [[thing] for thing in NO_TEXTS] + [
                    [TURN, TURN], [hand("a", rule("cup", ToTake()))],
                [hand("a", rule("bag", ToTake(), behind=["cup"]))],
                    [hand("a", rule("bag", ToMake(["size"])))], [hand("a", rule("bag", ToTake(), Meets("size")))]]:
                with self.assertRaises(NoRule, msg=(asked, hands)) as caught:
                    asked(KINDS, hands)
                self.assertIs(caught.exception.__class__, NoRule)


def look_at(things=(), rows=(), limits=None):
    world = World(KINDS, limits)
    for name, state in things:
        world.put(name, state)
    if rows is not None:
        world.tell(Wishes(KINDS, list(rows)))
    return world.look()


ROWS = [("box", 2, [("size", "m")]), ("lid", 1, [("shut", "yes")])]


class Why(unittest.TestCase):
    def test_nothing_there_and_nothing_wished(self):
        self.assertEqual(why(KINDS, look_at(rows=None)), {})
        self.assertEqual(why(KINDS, look_at()), {})

    def test_all_as_wished(self):
        things = [("box.0", ("m",)), ("box.1", ("m",)), ("box.0.lid.0", ("yes",)), ("box.1.lid.0", ("yes",))]
        self.assertEqual(why(KINDS, look_at(things, ROWS)), {})
        self.assertEqual(why(KINDS, look_at(things, ROWS, {"box": 2, "lid": 2, "bag": 0})), {})

    def test_owner(self):
        self.assertEqual(why(KINDS, look_at([("box.0", ("m",))], ROWS)), {
            "box.0.lid.0": "open", "box.1": "open", "box.1.lid.0": "owner"})

    def test_owner_ahead_of_full(self):
        self.assertEqual(why(KINDS, look_at((), ROWS, {"lid": 0, "box": 1})), {
            "box.0": "open", "box.0.lid.0": "owner", "box.1": "open", "box.1.lid.0": "owner"})

    def test_full(self):
        look = look_at([("box.0", ("m",)), ("box.0.lid.3", ("no",))], ROWS, {"box": 1, "lid": 1})
        self.assertEqual(why(KINDS, look), {
            "box.0.lid.0": "full", "box.0.lid.3": "open", "box.1": "full", "box.1.lid.0": "owner"})

    def test_full_ahead_of_open_and_just_at_the_limit(self):
        for limit, word in ((1, "full"), (2, "open"), (3, "open")):
            look = look_at([("box.0", ("m",))], [("box", 2, [])], {"box": limit})
            self.assertEqual(why(KINDS, look), {"box.1": word})

    def test_what_is_there_is_open_at_the_limit_too(self):
        look = look_at([("box.0", ("s",)), ("bag.0", ())], [("box", 1, [("size", "m")])], {"box": 1, "bag": 1})
        self.assertEqual(why(KINDS, look), {"bag.0": "open", "box.0": "open"})

    def test_unwished_things_of_unwished_owners(self):
        look = look_at([("box.5", ("s",)), ("box.5.lid.0", ("no",))], [("lid", 1, [])])
        self.assertEqual(why(KINDS, look), {"box.5": "open", "box.5.lid.0": "open"})

    def test_values_that_are_not_cared_for(self):
        look = look_at([("box.0", ("s",)), ("box.0.lid.0", ("no",))], [("box", 1, []), ("lid", 1, [("shut", "yes")])])
        self.assertEqual(why(KINDS, look), {"box.0.lid.0": "open"})

    def test_by_an_elder_look_as_it_was_then(self):
        world = World(KINDS)
        world.put("bag.0", ())
        elder = world.look()
        world.tell(Wishes(KINDS, [("bag", 1, [])]))
        self.assertEqual(why(KINDS, elder), {"bag.0": "open"})
        self.assertEqual(why(KINDS, world.look()), {})

    def test_the_told_dict_changed(self):
        look = look_at((), ROWS)
        told = why(look=look, kinds=KINDS)
        self.assertIs(told.__class__, dict)
        told.clear()
        self.assertEqual(len(why(KINDS, look)), 4)
        self.assertEqual(list(inspect.signature(why).parameters), ["kinds", "look"])


if __name__ == "__main__":
    unittest.main()
