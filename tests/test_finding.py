"""Points [2], [31], [32]: papers and rounds that are sought, and rounds that are walked."""

import inspect
import random
import unittest

from cometorest.conditions import Always, Both, Is, Meets, Not, Owner, Wanted
from cometorest.errors import NoRound, NoRule
from cometorest.finding import sought, walk
from cometorest.hands import Hand, deeds
from cometorest.kinds import Kind, Kinds
from cometorest.papers import wrong_with
from cometorest.rules import Rule, ToMake, ToSet, ToTake
from cometorest.situations import situations, steps
from cometorest.world import World
from tests.strange import NO_LISTS, NO_NAMES, NO_TEXTS, NO_WHOLES, Alike, AlikeKey

KINDS = Kinds([
    Kind("box", [("size", ["s", "m", "l"])]),
    Kind("lid", [("shut", ["no", "yes"])], "box"),
    Kind("knob", [("f", ["a", "b"]), ("g", ["c", "d"])], "lid"),
    Kind("bag", []),
])


def rule(kind, change, condition=None, behind=()):
    return Rule(kind, change, Always() if condition is None else condition, list(behind))


def hand(name, *rules):
    return Hand(name, list(rules))


def tidy(kinds, name="tidy"):
    rules = []
    for kind in kinds.order():
        rules += [rule(kind, ToMake([])), rule(kind, ToTake(), Not(Wanted()))]
        for field in kinds.of(kind).fields:
            rules.append(rule(kind, ToSet(field[0], None), Not(Meets(field[0]))))
    return Hand(name, rules)


def all_situations(kinds):
    return [here for kind in kinds.order() for here in situations(kinds, kind)]


def most_steps(kinds, hands, here):
    """Counted by walking every way; of hands that come to rest."""
    return max([1 + most_steps(kinds, hands, step[2]) for step in steps(kinds, hands, here)], default=0)


class RoundTest(unittest.TestCase):
    def is_a_round(self, kinds, hands, told):
        self.assertEqual(len(told), 3)
        word, start, taken = told
        self.assertEqual(word, "round")
        self.assertIs(taken.__class__, list)
        self.assertGreater(len(taken), 0)
        here, passed = start, []
        for step in taken:
            self.assertIs(step.__class__, tuple)
            self.assertNotIn(here, passed)
            passed.append(here)
            behind = [one[2] for one in steps(kinds, hands, here) if one[:2] == step]
            self.assertEqual(len(behind), 1, (here, step))
            here = behind[0]
        self.assertEqual(here, start)
        return passed


TURN = hand("turn", rule("lid", ToSet("shut", "yes"), Is("shut", "no")),
            rule("lid", ToSet("shut", "no"), Is("shut", "yes")))
OVER = [hand("a", rule("box", ToSet("size", "m"), Is("size", "s"))),
        hand("b", rule("bag", ToTake(), Not(Wanted())), rule("box", ToSet("size", "l"), Is("size", "m"))),
        hand("c", rule("box", ToTake(), Is("size", "l")), rule("box", ToMake([])))]


class Sought(RoundTest):
    def told_paper(self, kinds, hands):
        told = sought(kinds, hands)
        self.assertIs(told.__class__, tuple)
        self.assertEqual((len(told), told[0]), (2, "paper"))
        self.assertIs(told[1].__class__, dict)
        self.assertIsNone(wrong_with(kinds, hands, told[1]))
        return told[1]

    def test_no_hands_and_hands_without_rules(self):
        for hands in ([], [hand("a")], [hand("a"), hand("b")]):
            self.assertEqual(self.told_paper(KINDS, hands), dict.fromkeys(all_situations(KINDS), 0))

    def test_each_rank_is_the_greatest_number_of_steps(self):
        for hands in ([tidy(KINDS)], [tidy(KINDS), tidy(KINDS, "twin")], OVER[:2], OVER[1:],
                      [hand("a", rule("knob", ToTake(), Is("f", "b")), rule("knob", ToSet("f", "b"), Is("f", "a")),
                            rule("knob", ToSet("g", "d"), Both([Is("g", "c"), Owner("shut", "no")])))]):
            paper = self.told_paper(KINDS, hands)
            self.assertEqual(list(paper), all_situations(KINDS))
            for here in paper:
                self.assertEqual(paper[here], most_steps(KINDS, hands, here), here)
                self.assertIs(paper[here].__class__, int)

    def test_the_greatest_of_several_ways(self):
        # From s either straight to l, or by way of m.
        hands = [hand("a", rule("box", ToSet("size", "l"), Is("size", "s")),
                      rule("box", ToSet("size", "m"), Is("size", "s")),
                      rule("box", ToSet("size", "l"), Is("size", "m")), rule("box", ToTake(), Is("size", "l")))]
        paper = self.told_paper(KINDS, hands)
        ranks = [paper[("box", None, None, state)] for state in (None, ("s",), ("m",), ("l",))]
        self.assertEqual(ranks, [0, 3, 2, 1])
        self.assertEqual(paper[("box", ("l",), None, None)], 0)

    def test_the_longest_way_through_all_states(self):
        kinds = Kinds([Kind("a", [("f", list("abcdefgh"))])])
        hands = [hand("x", *[rule("a", ToSet("f", right), Is("f", left)) for left, right in zip("abcdefg", "bcdefgh")],
                      rule("a", ToMake(["f"]), Always()))]
        paper = self.told_paper(kinds, hands)
        self.assertEqual(paper[("a", (None,), None, None)], 8)
        self.assertEqual(paper[("a", ("h",), None, None)], 1)
        hands.append(hand("y", rule("a", ToTake(), Is("f", "h"))))
        self.is_a_round(kinds, hands, sought(kinds, hands))

    def test_behind_is_not_looked_at(self):
        turn = hand("turn", *[rule(one.kind, one.change, one.condition, ["bag"]) for one in TURN.rules])
        self.is_a_round(KINDS, [turn], sought(KINDS, [turn]))

    def test_a_round_of_one_step(self):
        for hands in ([hand("a", rule("lid", ToSet("shut", "yes"), Is("shut", "yes")))],
                      [hand("a", rule("box", ToSet("size", None)))],
                      [tidy(KINDS), hand("a", rule("knob", ToSet("f", "b"), Both([Is("f", "b"), Wanted()])))]):
            told = sought(KINDS, hands)
            self.assertEqual(len(self.is_a_round(KINDS, hands, told)), 1)

    def test_rounds_of_several_steps(self):
        told = sought(KINDS, [TURN])
        self.assertEqual(len(self.is_a_round(KINDS, [TURN], told)), 2)
        self.assertEqual(told[1][0], "lid")
        again = hand("a", rule("bag", ToMake([])), rule("bag", ToTake()))
        self.assertEqual(len(self.is_a_round(KINDS, [again], sought(KINDS, [again]))), 2)

    def test_rounds_by_way_of_several_hands(self):
        told = sought(KINDS, OVER)
        self.assertEqual(len(self.is_a_round(KINDS, OVER, told)), 4)
        self.assertEqual(sorted({step[0] for step in told[2]}), ["a", "b", "c"])

    def test_a_round_that_is_not_at_the_beginning_of_the_way(self):
        # From s and m to the round of l alone: neither s nor m belongs to it.
        hands = [hand("a", rule("box", ToSet("size", "m"), Is("size", "s")),
                      rule("box", ToSet("size", "l"), Not(Is("size", "s"))))]
        told = sought(KINDS, hands)
        self.assertEqual(self.is_a_round(KINDS, hands, told), [told[1]])
        self.assertEqual((told[1][3], told[2]), (("l",), [("a", 1)]))

    def test_one_round_amid_a_great_many_situations(self):
        hands = [tidy(KINDS), hand("a", rule("knob", ToTake(), Both([Is("g", "c"), Owner("shut", "yes"), Meets("f"),
                                                                    Not(Meets("g"))])))]
        told = sought(KINDS, hands)
        self.is_a_round(KINDS, hands, told)
        self.assertEqual(told[1][0], "knob")
        self.assertEqual(told[1][2], ("yes",))

    def test_always_just_one_of_both(self):
        draw = random.Random(31)
        kinds = Kinds([Kind("a", [("f", ["x", "y"])]), Kind("b", [("g", ["x", "y", "z"])], "a")])
        seen = {"paper": 0, "round": 0}
        for _ in range(150):
            rules = []
            for _ in range(draw.randrange(1, 6)):
                kind, field = draw.choice([("a", "f"), ("b", "g")])
                change = draw.choice([ToMake([]), ToMake([field]), ToSet(field, None), ToSet(field, "y"),
                                      ToSet(field, "x"), ToTake()])
                condition = draw.choice([Always(), Wanted(), Not(Wanted()), Is(field, "x"), Is(field, "y"),
                                         Not(Meets(field)), Not(Is(field, "y"))])
                rules.append(rule(kind, change, condition))
            hands = [Hand("p", rules[:2]), Hand("q", rules[2:])]
            told = sought(kinds, hands)
            seen[told[0]] += 1
            if told[0] == "round":
                self.is_a_round(kinds, hands, told)
            else:
                paper = self.told_paper(kinds, hands)
                for here in paper:
                    self.assertEqual(paper[here], most_steps(kinds, hands, here))
        self.assertGreater(min(seen.values()), 20)

    def test_the_told_paper_changed_changes_nothing(self):
        hands = [tidy(KINDS)]
        first = sought(KINDS, hands)[1]
        kept = dict(first)
        first.clear()
        self.assertEqual(sought(KINDS, hands)[1], kept)
        told = sought(KINDS, [TURN])
        told[2].clear()
        self.assertEqual(len(sought(KINDS, [TURN])[2]), 2)

    def test_hands_that_are_none_or_do_not_suit(self):
        for asked in (lambda hands: sought(KINDS, hands), lambda hands: walk(KINDS, hands, None, None),
                      lambda hands: walk(KINDS, hands, ("lid", None, ("s",), ("no",)), [("turn", 0), ("turn", 1)])):
            for hands in NO_LISTS + [TURN, (TURN,)] + [[TURN, thing] for thing in NO_TEXTS] + [
                    [TURN, TURN], [TURN, hand("a", rule("cup", ToTake()))],
                    [TURN, hand("a", rule("bag", ToTake(), behind=["cup"]))],
                    [TURN, hand("a", rule("bag", ToTake(), Owner("size", "s")))]]:
                with self.assertRaises(NoRule, msg=hands) as caught:
                    asked(hands)
                self.assertIs(caught.exception.__class__, NoRule)

    def test_names_of_arguments(self):
        self.assertEqual(list(inspect.signature(sought).parameters), ["kinds", "hands"])
        self.assertEqual(list(inspect.signature(walk).parameters), ["kinds", "hands", "situation", "steps"])
        self.assertEqual(sought(hands=[], kinds=KINDS)[0], "paper")
        start = ("lid", None, ("s",), ("no",))
        told = walk(steps=[("turn", 0), ("turn", 1)], situation=start, hands=[TURN], kinds=KINDS)
        self.assertEqual(len(told[2]), 2)


class Walked(RoundTest):
    def situation(self, kinds, look, name):
        kind = name.split(".")[-2]
        owner = ".".join(name.split(".")[:-2])
        owner_state = look.thing(owner)[0] if kinds.of(kind).owner else None
        there = look.thing(name)
        return (kind, look.wanted().wished(name), owner_state, there[0] if there else None)

    def walks(self, kinds, hands, start, taken):
        told = walk(kinds, hands, start, taken)
        self.assertIs(told.__class__, tuple)
        world, name, done = told
        self.assertIsInstance(world, World)
        self.assertIs(done.__class__, list)
        self.assertEqual(len(done), len(taken))
        words = name.split(".")
        above = [".".join(words[:end]) for end in range(2, len(words), 2)]
        for named in (world.look().names(), world.look().wanted().names()):
            self.assertLessEqual(set(named), set(above + [name]))
        self.assertEqual(self.situation(kinds, world.look(), name), start)
        here = start
        by_name = {one.name: one for one in hands}
        for step, deed in zip(taken, done):
            self.assertEqual(self.situation(kinds, world.look(), name), here)
            doer = by_name[step[0]]
            self.assertIn(deed.parts(), [one.parts() for one in deeds(kinds, doer, world.look())])
            # By its rule at this place, not by another one of the hand.
            alone = Hand(doer.name, [doer.rules[step[1]]])
            self.assertIn((deed.__class__, deed.parts()),
                          [(one.__class__, one.parts()) for one in deeds(kinds, alone, world.look())])
            self.assertEqual(world.do(deed), "done")
            here = [one[2] for one in steps(kinds, hands, here) if one[:2] == step][0]
        self.assertEqual(self.situation(kinds, world.look(), name), start)
        return told

    def walks_all(self, kinds, hands):
        """Every round that begins with a step from a situation and goes on by the first steps."""
        found = 0
        for start in all_situations(kinds):
            for taken in self.rounds(kinds, hands, start):
                self.is_a_round(kinds, hands, ("round", start, taken))
                self.walks(kinds, hands, start, taken)
                found += 1
        return found

    def rounds(self, kinds, hands, start):
        found = []

        def go(here, passed, taken):
            for name, place, behind in steps(kinds, hands, here):
                way = taken + [(name, place)]
                if behind == start:
                    found.append(way)
                elif behind not in passed:
                    go(behind, passed + [behind], way)
        go(start, [start], [])
        return found

    def test_without_owners(self):
        self.assertEqual(self.walks_all(KINDS, OVER), 16)
        again = hand("a", rule("bag", ToMake([])), rule("bag", ToTake()))
        self.assertEqual(self.walks_all(KINDS, [again]), 2)

    def test_owned_ones(self):
        self.assertEqual(self.walks_all(KINDS, [TURN]), 4 * 3 * 2)

    def test_chains_of_owners(self):
        hands = [hand("a", rule("knob", ToMake(["g"])), rule("knob", ToSet("f", "b"), Is("f", "a"))),
                 hand("b", rule("knob", ToTake(), Both([Is("f", "b"), Owner("shut", "yes")])),
                      rule("knob", ToSet("f", "a"), Both([Is("f", "b"), Not(Wanted())])))]
        self.assertGreater(self.walks_all(KINDS, hands), 30)

    def test_rules_that_wait_for_owners_and_others(self):
        hands = [hand("a", rule("lid", ToSet("shut", "yes"), Is("shut", "no"), ["box", "bag", "knob"])),
                 hand("b", rule("lid", ToSet("shut", "no"), Is("shut", "yes"), ["box"])),
                 hand("c", rule("knob", ToSet("f", "b"), behind=["box", "lid", "bag"])),
                 hand("d", rule("box", ToMake(["size"]), behind=["knob", "lid"]),
                      rule("box", ToTake(), behind=["knob", "lid", "bag"]))]
        self.assertGreater(self.walks_all(KINDS, hands), 50)

    def test_by_a_rule_that_is_not_the_first_usable(self):
        hands = [hand("a", rule("box", ToTake()), rule("box", ToSet("size", "m"), Is("size", "s")),
                      rule("box", ToSet("size", "s"), Is("size", "m")), rule("box", ToSet("size", "m")))]
        start = ("box", None, None, ("s",))
        self.walks(KINDS, hands, start, [("a", 1), ("a", 2)])
        self.walks(KINDS, hands, start, [("a", 3), ("a", 2)])
        self.walks(KINDS, hands, ("box", None, None, ("m",)), [("a", 3)])

    def test_what_was_sought(self):
        for hands in ([TURN], OVER, [hand("a", rule("knob", ToSet("g", None)))]):
            told = sought(KINDS, hands)
            self.walks(KINDS, hands, told[1], told[2])

    def test_a_new_world_each_time_and_nothing_changed(self):
        start, taken = ("lid", None, ("s",), ("no",)), [("turn", 0), ("turn", 1)]
        hands = [TURN]
        first = walk(KINDS, hands, start, taken)
        second = walk(KINDS, hands, start, taken)
        self.assertIsNot(first[0], second[0])
        self.assertEqual([first[0].do(deed) for deed in first[2]], ["done", "done"])
        self.assertEqual([second[0].do(deed) for deed in second[2]], ["done", "done"])
        first[2].clear()
        self.assertEqual(len(walk(KINDS, hands, start, taken)[2]), 2)
        self.assertEqual((hands, taken), ([TURN], [("turn", 0), ("turn", 1)]))


class NoRounds(unittest.TestCase):
    START = ("lid", None, ("s",), ("no",))
    STEPS = [("turn", 0), ("turn", 1)]

    def refuses(self, start, taken, hands=None):
        with self.assertRaises(NoRound, msg=(start, taken)) as caught:
            walk(KINDS, [TURN] if hands is None else hands, start, taken)
        self.assertIs(caught.exception.__class__, NoRound)

    def test_other_situations(self):
        walk(KINDS, [TURN], self.START, self.STEPS)
        for start in (("lid", None, ("s",), ("yes",)), ("lid", None, ("s",), None), ("lid", ("no",), ("s",), None),
                      ("box", None, None, ("s",)), ("bag", None, None, ()), ("bag", None, None, None)):
            self.refuses(start, self.STEPS)

    def test_what_is_no_situation(self):
        for start in NO_TEXTS + ["", "lid", (), ("lid",), ("lid", None, ("s",)), ["lid", None, ("s",), ("no",)],
                                 ("lid", None, None, ("no",)), ("lid", None, ("s",), ("ajar",)), AlikeKey(),
                                 ("lid", (), ("s",), ("no",)), ("lid", None, ("s",), ("no",), None),
                                 ("cup", None, None, None), (Alike(), Alike(), Alike(), Alike())]:
            self.refuses(start, self.STEPS)

    def test_steps_that_do_not_lead_back(self):
        self.refuses(self.START, [("turn", 0)])
        self.refuses(self.START, [("turn", 1)])
        self.refuses(self.START, [("turn", 0), ("turn", 0)])
        self.refuses(self.START, [("turn", 1), ("turn", 0)])
        self.refuses(("box", None, None, ("s",)), [("a", 0), ("b", 1)], OVER)
        self.refuses(("box", None, None, ("s",)), [("a", 0), ("b", 1), ("c", 0)], OVER)

    def test_round_twice_and_too_far(self):
        self.refuses(self.START, self.STEPS * 2)
        self.refuses(self.START, self.STEPS * 3)
        self.refuses(self.START, self.STEPS + [("turn", 0)])
        stay = [hand("a", rule("box", ToSet("size", "s"), Is("size", "s")))]
        walk(KINDS, stay, ("box", None, None, ("s",)), [("a", 0)])
        self.refuses(("box", None, None, ("s",)), [("a", 0), ("a", 0)], stay)

    def test_a_situation_passed_twice_amid(self):
        hands = [TURN, hand("a", rule("lid", ToSet("shut", "yes"), Is("shut", "yes")))]
        self.refuses(self.START, [("turn", 0), ("a", 0), ("turn", 1)], hands)

    def test_no_steps(self):
        self.refuses(self.START, [])
        self.refuses(("bag", None, None, None), [], [])

    def test_no_list(self):
        for taken in NO_LISTS + [tuple(self.STEPS), "turn 0", dict(self.STEPS), ("turn", 0)]:
            self.refuses(self.START, taken)

    def test_what_is_no_step(self):
        for step in NO_TEXTS + ["turn", "", ("turn",), ("turn", 0, 0), ["turn", 0], ("turn", 0, self.START), (),
                                {"turn": 0}, AlikeKey()]:
            self.refuses(self.START, [step])
            self.refuses(self.START, [step, ("turn", 1)])
            self.refuses(self.START, [("turn", 0), step])

    def test_strange_hands(self):
        for name in NO_NAMES + ["otto", "tur", TURN, AlikeKey()]:
            self.refuses(self.START, [(name, 0), ("turn", 1)])
            self.refuses(self.START, [("turn", 0), (name, 1)])

    def test_strange_places(self):
        for place in NO_WHOLES + [-1, -2, 2, 10 ** 11, "0", AlikeKey()]:
            self.refuses(self.START, [(TURN.name, place), ("turn", 1)])
            self.refuses(self.START, [("turn", 0), ("turn", place)])

    def test_true_is_not_one(self):
        self.refuses(self.START, [("turn", False), ("turn", 1)])
        self.refuses(self.START, [("turn", 0), ("turn", True)])

    def test_a_round_of_other_hands_or_kinds(self):
        self.refuses(self.START, self.STEPS, [])
        self.refuses(self.START, self.STEPS, [hand("turn")])
        self.refuses(self.START, self.STEPS, [hand("other", *TURN.rules)])
        other = Kinds([Kind("lid", [("shut", ["no", "yes"])])])
        with self.assertRaises(NoRound):
            walk(other, [TURN], self.START, self.STEPS)
        self.assertEqual(walk(other, [TURN], ("lid", None, None, ("no",)), self.STEPS)[1].split(".")[0], "lid")


if __name__ == "__main__":
    unittest.main()
