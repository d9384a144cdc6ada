"""Point [37], with [24], [30], [34], [36]: the promise over the whole program, by drawn kinds, hands and runs."""

import random
import unittest

from cometorest.conditions import Always, Both, Either, Is, Meets, Not, Owner, Wanted
from cometorest.deeds import Deed
from cometorest.finding import sought, walk
from cometorest.hands import Hand
from cometorest.judging import judge, ring, stuck, why
from cometorest.kinds import Kind, Kinds, states
from cometorest.papers import measure, wrong_with
from cometorest.rules import Rule, ToMake, ToSet, ToTake
from cometorest.runs import Run
from cometorest.texts import read_hands, read_kinds, read_wishes, show_hands, show_kinds, show_wishes
from cometorest.wishes import Wishes, fits
from cometorest.world import World


def draw_kinds(draw):
    names = draw.sample(["a", "b", "c", "d", "e"], draw.choice([1, 2, 3, 3, 4]))
    kinds = []
    for place, name in enumerate(names):
        many = draw.choice([0, 1, 1, 2])
        fields = [(field, ["x", "y", "z"][:draw.choice([1, 2, 2, 3] if many == 1 else [2])]) for field in "fg"[:many]]
        owner = draw.choice(names[:place]) if place and draw.random() < 0.6 else None
        kinds.append(Kind(name, fields, owner))
    draw.shuffle(kinds)
    return Kinds(kinds)


def draw_behind(draw, kinds, kind):
    # Mostly of kinds ahead in the order, so that rings are seldom.
    order = kinds.order()
    ahead = order[:order.index(kind)]
    found = [other for other in ahead if draw.random() < 0.25]
    if draw.random() < 0.03:
        found.append(draw.choice(order))
    return [other for other in dict.fromkeys(found) if other != kind]


def right_rules(draw, kinds, kind):
    """Rules that lead a thing of this kind to what is wished."""
    fields = [field[0] for field in kinds.of(kind).fields]
    rules = [(ToMake([field for field in fields if draw.random() < 0.5]), draw.choice([Always(), Wanted()])),
             (ToTake(), Not(Wanted()))]
    for field in fields:
        if draw.random() < 0.8:
            rules.append((ToSet(field, None), Not(Meets(field))))
        else:
            # Taken away to be made anew, which is of no avail where it is made wrongly.
            rules.append((ToTake(), Both([Wanted(), Not(Meets(field))])))
    return rules


def wild_rule(draw, kinds, kind):
    fields = kinds.of(kind).fields
    owner = kinds.of(kind).owner
    conditions = [Wanted(), Not(Wanted()), Not(Always())]
    changes = [ToTake(), ToMake([])]
    for field, values in fields:
        conditions += [Is(field, draw.choice(values)), Not(Is(field, values[0])), Not(Meets(field))]
        changes += [ToSet(field, draw.choice(values)), ToSet(field, None)]
    if owner is not None:
        for field, values in kinds.of(owner).fields:
            conditions.append(Owner(field, draw.choice(values)))
    picked = [draw.choice(conditions) for _ in range(3)]
    return (draw.choice(changes), Both([picked[0], Either(picked[1:])]))


def draw_hands(draw, kinds):
    hands = {name: [] for name in ("anna", "otto", "uwe")[:draw.choice([1, 2, 3])]}
    for kind in kinds.order():
        rules = right_rules(draw, kinds, kind)
        if draw.random() < 0.2:
            rules.append(wild_rule(draw, kinds, kind))
        if draw.random() < 0.03:
            rules.pop(0)
        for change, condition in rules:
            for name in draw.sample(list(hands), draw.choice([1, 1, len(hands)])):
                hands[name].append(Rule(kind, change, condition, draw_behind(draw, kinds, kind)))
    for rules in hands.values():
        draw.shuffle(rules)
    return [Hand(name, rules) for name, rules in hands.items()]


def draw_world(draw, kinds):
    limits = {kind: draw.randrange(5) for kind in kinds.order() if draw.random() < 0.2}
    world = World(kinds, limits)
    for _ in range(draw.randrange(15)):
        look = world.look()
        kind = kinds.of(draw.choice(kinds.order()))
        owners = [None] if kind.owner is None else [name for name in look.names() if name.split(".")[-2] == kind.owner]
        if owners and not look.is_full(kind.name):
            owner = draw.choice(owners)
            name = ("" if owner is None else owner + ".") + f"{kind.name}.{draw.randrange(4)}"
            if look.thing(name) is None:
                world.put(name, draw.choice(states(kind)))
    return world


def draw_wishes(draw, kinds):
    rows = []
    for kind in draw.choices(kinds.order(), k=draw.randrange(6)):
        cared = [(field[0], draw.choice(field[1])) for field in kinds.of(kind).fields if draw.random() < 0.6]
        rows.append((kind, draw.choice([1, 1, 2]), cared))
    return Wishes(kinds, rows)


def draw_step(draw, kinds, run, hands):
    word = draw.choice(["look"] * 8 + ["come"] * 8 + ["twice", "lost", "wish"])
    if word == "look":
        return (word, draw.choice(hands).name, draw.choice([0, 0, 0, 1, 2, 6]))
    if word == "wish" and draw.random() < 0.5:
        return (word, draw_wishes(draw, kinds))
    word = "come" if word == "wish" else word
    return (word, draw.randrange(len(run.on_the_way()) + 1))


def waits(kinds, hands):
    pairs = {(kind, kinds.of(kind).owner) for kind in kinds.order()}
    pairs |= {(rule.kind, other) for hand in hands for rule in hand.rules for other in rule.behind}
    return pairs


def leads_to(pairs, start, aims):
    reached = {start}
    while True:
        more = {right for left, right in pairs if left in reached and right is not None} - reached
        if not more:
            return bool(reached & set(aims))
        reached |= more


class Promise(unittest.TestCase):
    def runs_as_promised(self, draw, kinds, hands, paper):
        """Told is what is told of the names behind the settling."""
        world = draw_world(draw, kinds)
        run = Run(world, kinds, hands)
        first = measure(kinds, paper, world.look())
        for _ in range(draw.choice([0, 10, 60])):
            ahead, done, step = measure(kinds, paper, world.look()), run.done(), draw_step(draw, kinds, run, hands)
            told = run.step(step)
            behind = measure(kinds, paper, world.look())
            if step[0] == "wish":
                first = behind
            elif run.done() > done:
                self.assertEqual(told, "done")
                self.assertLess(behind, ahead)
            else:
                self.assertEqual(behind, ahead)
            self.assertTrue(told is None or isinstance(told, (Deed, str)))
            self.assertLessEqual(run.done(), first)
        self.assertIs(run.settle(measure(kinds, paper, world.look()) + draw.choice([0, 0, 1, 50])), True)
        self.assertLessEqual(run.done(), first)
        self.assertIs(run.settle(0), True)
        return why(kinds, world.look()), world.look()

    def all_is_as_promised(self, kinds, hands, told, look):
        full = [name.split(".")[-2] for name, word in told.items() if word == "full"]
        if not full:
            self.assertEqual(told, {})
            self.assertEqual(look.names(), look.wanted().names())
            for name in look.names():
                self.assertTrue(fits(look.wanted().wished(name), look.thing(name)[0]))
        pairs = waits(kinds, hands)
        for name in told:
            self.assertTrue(leads_to(pairs, name.split(".")[-2], full), (name, told))

    def test_by_drawn_runs(self):
        draw = random.Random(37)
        seen = {"rests": 0, "round": 0, "stuck": 0, "ring": 0, "full": 0, "none": 0}
        for _ in range(250):
            kinds = draw_kinds(draw)
            hands = draw_hands(draw, kinds)
            told = judge(kinds, hands)
            seen[told[0]] += 1
            if told[0] == "round":
                self.walks(kinds, hands, told)
                continue
            paper = sought(kinds, hands)[1]
            self.assertIsNone(wrong_with(kinds, hands, paper))
            left, look = self.runs_as_promised(draw, kinds, hands, paper)
            if told[0] == "rests":
                self.assertEqual(told[1], paper)
                self.assertEqual((stuck(kinds, hands), ring(kinds, hands)), ([], None))
                self.all_is_as_promised(kinds, hands, left, look)
                seen["full" if left else "none"] += 1
        self.assertGreater(seen["rests"], 80)
        self.assertGreater(seen["full"], 5)
        self.assertGreater(seen["none"], 50)
        self.assertGreater(seen["round"], 10)
        self.assertGreater(seen["stuck"], 5)
        self.assertGreater(seen["ring"], 2)

    def walks(self, kinds, hands, told):
        self.assertEqual(sought(kinds, hands)[0], "round")
        world, name, deeds = walk(kinds, hands, told[1], told[2])
        ahead = world.look().thing(name)
        self.assertEqual([world.do(deed) for deed in deeds], ["done"] * len(told[2]))
        behind = world.look().thing(name)
        self.assertEqual(behind and behind[0], ahead and ahead[0])

    def test_texts_of_what_is_drawn(self):
        draw = random.Random(40)
        for _ in range(100):
            kinds = draw_kinds(draw)
            hands, wishes = draw_hands(draw, kinds), draw_wishes(draw, kinds)
            again = read_kinds(show_kinds(kinds))
            self.assertEqual(show_kinds(again), show_kinds(kinds))
            self.assertEqual(again.order(), kinds.order())
            self.assertEqual(show_hands(read_hands(show_hands(hands))), show_hands(hands))
            self.assertEqual(read_wishes(again, show_wishes(wishes)).rows, wishes.rows)
            told, other = judge(kinds, hands), judge(again, read_hands(show_hands(hands)))
            self.assertEqual(told, other)

    def test_a_limit_that_holds_up_others(self):
        kinds = Kinds([Kind("bag", []), Kind("box", []), Kind("lid", [], "box")])
        rules = [Rule(kind, change, condition, ["bag"] if kind == "lid" else []) for kind in kinds.order()
                 for change, condition in ((ToMake([]), Always()), (ToTake(), Not(Wanted())))]
        hands = [Hand("anna", rules)]
        self.assertEqual(judge(kinds, hands)[0], "rests")
        world = World(kinds, {"bag": 1})
        run = Run(world, kinds, hands)
        run.step(("wish", Wishes(kinds, [("bag", 2, []), ("box", 1, []), ("lid", 1, [])])))
        self.assertIs(run.settle(measure(kinds, judge(kinds, hands)[1], world.look())), True)
        self.assertEqual(why(kinds, world.look()), {"bag.1": "full", "box.0.lid.0": "open"})


if __name__ == "__main__":
    unittest.main()
