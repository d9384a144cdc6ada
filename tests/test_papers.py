"""Points [2], [28] to [30]: what is wrong with a paper, and the measure of a look."""

import collections
import copy
import inspect
import random
import unittest

from cometorest.conditions import Always, Is, Meets, Not, Wanted
from cometorest.errors import NoRule
from cometorest.hands import Hand, deeds
from cometorest.kinds import Kind, Kinds
from cometorest.papers import measure, wrong_with
from cometorest.rules import Rule, ToMake, ToSet, ToTake
from cometorest.runs import Run
from cometorest.situations import situations, steps
from cometorest.wishes import Wishes
from cometorest.world import World
from tests.strange import NO_LISTS, NO_TEXTS, Alike, AlikeKey

KINDS = Kinds([
    Kind("box", [("size", ["s", "m"])]),
    Kind("lid", [("shut", ["no", "yes"])], "box"),
    Kind("bag", []),
])


def rule(kind, change, condition=None, behind=()):
    return Rule(kind, change, Always() if condition is None else condition, list(behind))


def tidy(kinds, name="anna"):
    """Makes, sets and takes all of these kinds, until it is as wished."""
    rules = []
    for kind in kinds.order():
        rules += [rule(kind, ToMake([])), rule(kind, ToTake(), Not(Wanted()))]
        for field in kinds.of(kind).fields:
            rules.append(rule(kind, ToSet(field[0], None), Not(Meets(field[0]))))
    return Hand(name, rules)


def all_situations(kinds):
    return [here for kind in kinds.order() for here in situations(kinds, kind)]


def longest(kinds, hands):
    """The paper of the greatest numbers of steps, of hands that come to rest."""
    ranks = {}

    def rank(here):
        if here not in ranks:
            ranks[here] = max([rank(step[2]) + 1 for step in steps(kinds, hands, here)], default=0)
        return ranks[here]
    return {here: rank(here) for here in all_situations(kinds)}


HANDS = [tidy(KINDS), Hand("otto", [rule("lid", ToTake(), Not(Wanted()))])]
PAPER = longest(KINDS, HANDS)


class Key:
    """Says that it is equal to one situation, and lies where that lies."""

    def __init__(self, situation):
        self.situation = situation

    def __hash__(self):
        return hash(self.situation)

    def __eq__(self, other):
        return other == self.situation


class Wrong(unittest.TestCase):
    def told(self, paper, right, hands=None, kinds=KINDS):
        self.assertEqual(wrong_with(kinds, HANDS if hands is None else hands, paper), right)

    def changed(self, changes, without=(), more=()):
        paper = {here: rank for here, rank in PAPER.items() if here not in without}
        paper.update(changes)
        paper.update(more)
        return paper

    def test_papers_that_are_let_by(self):
        self.told(PAPER, None)
        self.told({here: 3 * rank + 7 for here, rank in PAPER.items()}, None)
        self.told(dict(reversed(PAPER.items())), None)
        self.told({here: 10 ** 12 * rank for here, rank in PAPER.items()}, None)
        self.told(collections.OrderedDict(PAPER), None)

    def test_no_hands(self):
        every = all_situations(KINDS)
        self.told(dict.fromkeys(every, 0), None, [])
        self.told(dict.fromkeys(every, 5), None, [Hand("idle", [])])
        self.told({}, ("lacks", every[0]), [])

    def test_no_dict(self):
        for thing in [None, True, False, 0, 1, "", "box", [], list(PAPER), list(PAPER.items()), (), tuple(PAPER),
                      set(PAPER), object(), dict, Alike(), AlikeKey(), KINDS]:
            self.told(thing, ("kind",))
            self.told(thing, ("kind",), [])

    def test_what_it_lacks(self):
        every = all_situations(KINDS)
        for here in every:
            self.told(self.changed({}, [here]), ("lacks", here))
        self.told({}, ("lacks", ("bag", None, None, None)))

    def test_the_first_that_it_lacks(self):
        every = all_situations(KINDS)
        self.assertEqual(KINDS.order(), ["bag", "box", "lid"])
        draw = random.Random(3)
        for _ in range(30):
            places = sorted(draw.sample(range(len(every)), 3))
            self.told(self.changed({}, [every[place] for place in places]), ("lacks", every[places[0]]))

    def test_kinds_in_their_order(self):
        # The owner comes ahead of what it owns, whatever their names and the order of the list.
        kinds = Kinds([Kind("a", [], "z"), Kind("z", []), Kind("m", [])])
        self.told({}, ("lacks", ("m", None, None, None)), [], kinds)
        paper = {here: 0 for here in situations(kinds, "m")}
        self.told(paper, ("lacks", ("z", None, None, None)), [], kinds)
        paper.update({here: 0 for here in situations(kinds, "z")})
        self.told(paper, ("lacks", ("a", None, (), None)), [], kinds)

    def test_ranks_that_are_none(self):
        here = ("box", ("s",), None, ("m",))
        for rank in [None, True, False, -1, -10 ** 9, "", "0", "1", [], [1], (), (1,), {}, object(), Alike(), here]:
            self.told(self.changed({here: rank}), ("rank", here))
            self.told({other: rank for other in PAPER}, ("rank", ("bag", None, None, None)))

    def test_true_is_not_taken_for_one(self):
        for here, rank in PAPER.items():
            if rank in (0, 1):
                self.told(self.changed({here: bool(rank)}), ("rank", here))

    def test_the_first_wrong_rank(self):
        every = all_situations(KINDS)
        draw = random.Random(5)
        for _ in range(30):
            places = sorted(draw.sample(range(len(every)), 3))
            self.told(self.changed({every[place]: -1 for place in places}), ("rank", every[places[0]]))

    def test_anything_else(self):
        for key in [None, True, 0, 1, "", "box", (), ("box",), ("box", None, None), ("box", None, None, None, None),
                    ("cup", None, None, None), ("box", (), None, None), ("box", None, (), None),
                    ("box", None, None, ("l",)), ("lid", None, None, None), ("lid", None, ("s",), ("s",)), object(),
                    ("bag", None, None, True), ("bag", 0, None, None), AlikeKey(), (AlikeKey(), None, None, None)]:
            self.told(self.changed({}, more={key: 0}), ("more",))
            self.told(self.changed({}, more={key: -1}), ("more",))

    def test_steps_at_which_the_rank_does_not_fall(self):
        here = ("lid", ("yes",), ("s",), ("no",))
        behind = ("lid", ("yes",), ("s",), ("yes",))
        place = 7
        self.assertIn(("anna", place, behind), steps(KINDS, HANDS, here))
        self.told(self.changed({here: 0}), ("step", here, "anna", place))
        self.told(self.changed({behind: PAPER[here]}), ("step", here, "anna", place))
        self.told(self.changed({behind: PAPER[here] + 1}), ("step", here, "anna", place))
        self.told(dict.fromkeys(PAPER, 4), ("step", ("bag", None, None, ()), "anna", 1))

    def test_the_first_step_of_a_situation(self):
        here = ("lid", None, ("m",), ("no",))
        self.assertEqual([step[:2] for step in steps(KINDS, HANDS, here)], [("anna", 6), ("otto", 0)])
        self.told(self.changed({here: 0}), ("step", here, "anna", 6))
        self.told(self.changed({here: 0}), ("step", here, "otto", 0), list(reversed(HANDS)))

    def test_a_step_that_stays(self):
        hands = [Hand("turn", [rule("bag", ToTake(), Wanted()), rule("box", ToSet("size", "s"), Is("size", "s"))])]
        paper = {here: 1 if here == ("bag", (), None, ()) else 0 for here in all_situations(KINDS)}
        self.told(paper, ("step", ("box", None, None, ("s",)), "turn", 1), hands)

    def test_each_thing_ahead_of_the_later_ones(self):
        late = ("lid", ("yes",), ("m",), ("no",))
        early = ("bag", None, None, None)
        step = {("bag", None, None, ()): 0}
        self.told(self.changed(step), ("step", ("bag", None, None, ()), "anna", 1))
        self.told(self.changed(step, more={"x": 0}), ("more",))
        self.told(self.changed({**step, late: -1}, more={"x": 0}), ("rank", late))
        self.told(self.changed({**step, early: None}, [late], {"x": 0}), ("lacks", late))

    def test_keys_that_only_say_that_they_are_situations(self):
        here = ("lid", ("yes",), ("m",), ("no",))
        self.told(self.changed({}, [here], {Key(here): PAPER[here]}), ("lacks", here))

    def test_what_is_handed_in_stays(self):
        for paper in (dict(PAPER), {}, self.changed({}, more={"x": []}), self.changed({("bag", (), None, ()): None})):
            kept = copy.deepcopy(paper)
            wrong_with(KINDS, HANDS, paper)
            self.assertEqual(list(paper.items()), list(kept.items()))

    def test_hands_that_are_none_or_do_not_suit(self):
        def refuses(hands, paper):
            with self.assertRaises(NoRule, msg=hands) as caught:
                wrong_with(KINDS, hands, paper)
            self.assertIs(caught.exception.__class__, NoRule)
        # Ahead of all that is wrong with the paper.
        for paper in (PAPER, None, {}, 7):
            for thing in NO_LISTS + [HANDS[0], tuple(HANDS)]:
                refuses(thing, paper)
            for thing in NO_TEXTS + ["anna"]:
                refuses([thing], paper)
            refuses(HANDS + [HANDS[0]], paper)
            refuses([Hand("anna", [rule("cup", ToTake())])], paper)
            refuses([Hand("anna", [rule("bag", ToTake(), Is("size", "s"))])], paper)

    def test_names_of_arguments(self):
        self.assertEqual(list(inspect.signature(wrong_with).parameters), ["kinds", "hands", "paper"])
        self.assertEqual(list(inspect.signature(measure).parameters), ["kinds", "paper", "look"])
        self.assertIsNone(wrong_with(paper=PAPER, hands=HANDS, kinds=KINDS))


def look_at(kinds, things=(), rows=(), limits=None):
    world = World(kinds, limits)
    for name, state in things:
        world.put(name, state)
    world.tell(Wishes(kinds, list(rows)))
    return world.look()


def flat(kinds, ranks):
    """A paper that has one rank for all situations of a kind, let by where there are no hands."""
    return {here: ranks[here[0]] for here in all_situations(kinds)}


class Measured(unittest.TestCase):
    def test_nothing_there_and_nothing_wished(self):
        self.assertEqual(measure(KINDS, PAPER, look_at(KINDS)), 0)
        self.assertEqual(measure(KINDS, flat(KINDS, {"box": 3, "lid": 4, "bag": 5}), look_at(KINDS)), 0)
        self.assertEqual(measure(KINDS, PAPER, World(KINDS).look()), 0)

    def test_without_owners(self):
        kinds = Kinds([Kind("bag", []), Kind("box", [("size", ["s", "m"])])])
        paper = {here: place for place, here in enumerate(all_situations(kinds))}
        look = look_at(kinds, [("bag.0", ()), ("bag.7", ()), ("box.0", ("m",))], [("bag", 2, []), ("box", 1, [])])
        right = [("bag", (), None, ()), ("bag", (), None, None), ("bag", None, None, ()),
                 ("box", (None,), None, ("m",))]
        self.assertEqual(measure(kinds, paper, look), sum(paper[here] for here in right))

    def test_a_weight_by_what_is_owned(self):
        # n of lid is 2, high 5: whole of lid is 5, unit of box 1 + 2 * 5.
        paper = flat(KINDS, {"box": 3, "lid": 5, "bag": 2})
        look = look_at(KINDS, [("box.0", ("s",)), ("box.0.lid.0", ("no",)), ("box.0.lid.1", ("no",)), ("bag.0", ())])
        self.assertEqual(measure(KINDS, paper, look), 11 * 3 + 5 + 5 + 2)

    def test_the_most_of_all_owners(self):
        paper = flat(KINDS, {"box": 3, "lid": 5, "bag": 2})
        things = [("box.0", ("s",)), ("box.1", ("s",)), ("box.1.lid.3", ("no",)), ("box.1.lid.4", ("no",)),
                  ("box.1.lid.5", ("no",)), ("box.2", ("s",)), ("box.2.lid.0", ("no",))]
        self.assertEqual(measure(KINDS, paper, look_at(KINDS, things)), 3 * (1 + 3 * 5) * 3 + 4 * 5)

    def test_wished_or_there_counts_once(self):
        paper = flat(KINDS, {"box": 1, "lid": 10, "bag": 0})
        rows = [("box", 1, []), ("lid", 2, [])]
        there = [("box.0", ("s",)), ("box.0.lid.1", ("no",)), ("box.0.lid.7", ("no",))]
        # lid.0 wished, lid.1 both, lid.7 there: n is 3.
        self.assertEqual(measure(KINDS, paper, look_at(KINDS, there, rows)), 31 + 3 * 10)

    def test_at_least_what_the_rows_wish_of_each_owner(self):
        paper = flat(KINDS, {"box": 1, "lid": 10, "bag": 0})
        rows = [("box", 2, []), ("lid", 2, []), ("lid", 1, [("shut", "yes")])]
        # No box is there: n is 3 by the rows alone, and the lids have no owner that is there.
        self.assertEqual(measure(KINDS, paper, look_at(KINDS, (), rows)), 2 * 31)
        # An unwished box that owns none, and rows of lids whose owners aren't wished at all.
        self.assertEqual(measure(KINDS, paper, look_at(KINDS, [("box.5", ("s",))], [("lid", 2, [])])), 21)

    def test_what_an_owner_that_is_not_there_would_own_counts_not_for_n(self):
        paper = flat(KINDS, {"box": 1, "lid": 10, "bag": 0})
        rows = [("box", 2, []), ("lid", 1, [])]
        things = [("box.1", ("s",)), ("box.1.lid.4", ("no",))]
        # Of box.1 lid.0 is wished and lid.4 there: n is 2; of box.0, not there, lid.0 counts nowhere.
        self.assertEqual(measure(KINDS, paper, look_at(KINDS, things, rows)), 2 * 21 + 2 * 10)

    def test_several_owned_kinds_of_one_owner(self):
        kinds = Kinds([Kind("box", []), Kind("lid", [], "box"), Kind("tag", [], "box")])
        paper = flat(kinds, {"box": 2, "lid": 3, "tag": 7})
        things = [("box.0", ()), ("box.0.lid.0", ()), ("box.0.lid.1", ()), ("box.0.tag.0", ())]
        self.assertEqual(measure(kinds, paper, look_at(kinds, things)), (1 + 2 * 3 + 1 * 7) * 2 + 2 * 3 + 7)

    def test_a_chain_of_owners(self):
        kinds = Kinds([Kind("a", []), Kind("b", [], "a"), Kind("c", [], "b")])
        paper = flat(kinds, {"a": 2, "b": 3, "c": 5})
        things = [("a.0", ()), ("a.0.b.0", ()), ("a.0.b.1", ()), ("a.0.b.1.c.0", ()), ("a.0.b.1.c.1", ()),
                  ("a.0.b.1.c.2", ())]
        # c: unit 1, whole 5, n 3. b: unit 16, whole 16 * 3 + 15 = 63, n 2. a: unit 127.
        self.assertEqual(measure(kinds, paper, look_at(kinds, things)), 127 * 2 + 2 * 16 * 3 + 3 * 5)

    def test_a_kind_of_rank_nought_weighs_nothing(self):
        paper = flat(KINDS, {"box": 4, "lid": 0, "bag": 0})
        things = [("box.0", ("s",)), ("box.0.lid.0", ("no",))]
        self.assertEqual(measure(KINDS, paper, look_at(KINDS, things)), 4)

    def test_ranks_by_the_situation_and_high_by_all(self):
        # anna's ranks: box wished and lacking 2 at most, made as s and set to m; so, too, a lid.
        self.assertEqual(PAPER[("box", ("m",), None, None)], 2)
        self.assertEqual(PAPER[("lid", ("yes",), ("s",), ("no",))], 1)
        rows = [("box", 2, [("size", "m")]), ("lid", 3, [("shut", "yes")])]
        look = look_at(KINDS, [("box.0", ("m",)), ("box.0.lid.1", ("no",)), ("box.0.lid.2", ("yes",))], rows)
        # box.0 is right; box.1 lacks: unit 1 + 3 * 2, rank 2; lid.0 lacks: 2; lid.1 is to be set: 1.
        self.assertEqual(measure(KINDS, PAPER, look), 7 * 2 + 2 + 1)

    def test_all_as_wished(self):
        rows = [("box", 1, [("size", "m")]), ("lid", 1, [])]
        look = look_at(KINDS, [("box.0", ("m",)), ("box.0.lid.0", ("no",))], rows)
        self.assertEqual(measure(KINDS, PAPER, look), 0)

    def test_by_an_elder_look_as_it_was_then(self):
        world = World(KINDS)
        world.put("box.0", ("s",))
        elder = world.look()
        self.assertEqual(measure(KINDS, PAPER, elder), 1)
        world.tell(Wishes(KINDS, [("box", 3, [("size", "m")])]))
        between = world.look()
        self.assertEqual(measure(KINDS, PAPER, between), 5)
        Run(world, KINDS, HANDS).settle(100)
        self.assertEqual(measure(KINDS, PAPER, world.look()), 0)
        self.assertEqual(measure(look=elder, paper=PAPER, kinds=KINDS), 1)
        self.assertEqual(measure(KINDS, PAPER, between), 5)

    def test_nothing_is_changed(self):
        look = look_at(KINDS, [("box.0", ("s",))], [("lid", 2, [])])
        paper = dict(PAPER)
        first = measure(KINDS, paper, look)
        self.assertEqual(measure(KINDS, paper, look), first)
        self.assertEqual(paper, PAPER)
        self.assertIs(first.__class__, int)


DEEP = Kinds([
    Kind("a", [("f", ["x", "y"])]),
    Kind("b", [("g", ["x", "y", "z"])], "a"),
    Kind("c", [("h", ["x", "y"])], "b"),
    Kind("d", [], "a"),
])


class Falls(unittest.TestCase):
    """Each deed that is done makes the measure less, by whatever look it was thought of."""

    def draw_world(self, draw, hands):
        world = World(DEEP, {"b": 7} if draw.random() < 0.3 else None)
        for _ in range(draw.randrange(40)):
            names = world.look().names()
            kind = DEEP.of(draw.choice("abcd"))
            owners = [name for name in names if name.split(".")[-2] == kind.owner] if kind.owner else [None]
            if owners:
                owner = draw.choice(owners)
                name = f"{owner}.{kind.name}.{draw.randrange(4)}" if owner else f"{kind.name}.{draw.randrange(4)}"
                if name not in names and not world.look().is_full(kind.name):
                    world.put(name, tuple(draw.choice(field[1]) for field in kind.fields))
        return Run(world, DEEP, hands), world

    def draw_wishes(self, draw):
        rows = []
        for _ in range(draw.randrange(7)):
            kind = DEEP.of(draw.choice("aaabbcd"))
            cared = [(field[0], draw.choice(field[1])) for field in kind.fields if draw.random() < 0.6]
            rows.append((kind.name, draw.choice([1, 1, 2]), cared))
        return Wishes(DEEP, rows)

    def draw_step(self, draw, run):
        word = draw.choice(["look"] * 4 + ["come"] * 5 + ["twice", "lost"])
        if word == "look":
            return (word, draw.choice(["anna", "otto"]), draw.choice([0, 0, 0, 1, 4]))
        return (word, draw.randrange(len(run.on_the_way()) + 1))

    def test_by_drawn_runs(self):
        hands = [tidy(DEEP), Hand("otto", list(reversed(tidy(DEEP).rules)))]
        paper = longest(DEEP, hands)
        self.assertIsNone(wrong_with(DEEP, hands, paper))
        draw = random.Random(29)
        fallen = 0
        for _ in range(25):
            run, world = self.draw_world(draw, hands)
            run.step(("wish", self.draw_wishes(draw)))
            first = measure(DEEP, paper, world.look())
            for _ in range(100):
                ahead, done = measure(DEEP, paper, world.look()), run.done()
                run.step(self.draw_step(draw, run))
                behind = measure(DEEP, paper, world.look())
                if run.done() > done:
                    fallen += 1
                    self.assertLess(behind, ahead)
                else:
                    self.assertEqual(behind, ahead)
                self.assertLessEqual(run.done() + behind, first)
        self.assertGreater(fallen, 100)

    def test_each_deed_that_a_hand_tells(self):
        # Not the first alone: whichever of them is done.
        hands = [tidy(DEEP)]
        paper = longest(DEEP, hands)
        draw = random.Random(31)
        for _ in range(20):
            _, world = self.draw_world(draw, hands)
            world.tell(self.draw_wishes(draw))
            told = deeds(DEEP, hands[0], world.look())
            while told:
                ahead = measure(DEEP, paper, world.look())
                self.assertEqual(world.do(draw.choice(told)), "done")
                self.assertLess(measure(DEEP, paper, world.look()), ahead)
                told = deeds(DEEP, hands[0], world.look())


if __name__ == "__main__":
    unittest.main()
