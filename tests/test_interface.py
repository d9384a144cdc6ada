"""The interface: every name is in its module, and arguments may be handed in by their names."""

import importlib
import inspect
import unittest

from cometorest.conditions import Always, Both, Condition, Either, Is, Meets, Not, Owner, Wanted
from cometorest.deeds import Deed, Make, Set, Take
from cometorest.desk import Desk
from cometorest.errors import NoText, RestError
from cometorest.finding import sought, walk
from cometorest.hands import Hand, check, deed, deeds
from cometorest.judging import judge, ring, stuck, why
from cometorest.kinds import Kind, Kinds, first_state, is_name, is_whole, states
from cometorest.names import name_of, parts_of
from cometorest.papers import measure, wrong_with
from cometorest.rules import Change, Rule, ToMake, ToSet, ToTake, can_be_used, state_behind
from cometorest.runs import Run
from cometorest.situations import is_right, situations, steps
from cometorest.wishes import Wishes, fits
from cometorest.world import Look, World

ROWS = {
    "kinds": {"is_name": "thing", "is_whole": "thing", "Kind": "name fields owner=None", "states": "kind",
              "first_state": "kind", "Kinds": "kinds", "Kinds.order": "", "Kinds.of": "name", "Kinds.owned": "name"},
    "names": {"parts_of": "kinds name", "name_of": "kinds kind owner number"},
    "wishes": {"Wishes": "kinds rows", "Wishes.wished": "name", "Wishes.names": "", "fits": "wished state"},
    "deeds": {"Make": "hand number wishing name owner_mark state", "Make.parts": "", "Set.parts": "", "Take.parts": "",
              "Set": "hand number wishing name mark owner_mark field value",
              "Take": "hand number wishing name mark owner_mark"},
    "world": {"World": "kinds limits=None", "World.put": "name state", "World.tell": "wishes", "World.do": "deed",
              "World.look": "", "Look.thing": "name", "Look.names": "", "Look.wanted": "", "Look.turn": "",
              "Look.last": "hand", "Look.is_full": "kind"},
    "conditions": {"Always": "", "Wanted": "", "Is": "field value", "Meets": "field", "Owner": "field value",
                   "Not": "condition", "Both": "conditions", "Either": "conditions", "Always.holds": "kinds situation",
                   "Wanted.holds": "kinds situation", "Is.holds": "kinds situation", "Meets.holds": "kinds situation",
                   "Owner.holds": "kinds situation", "Not.holds": "kinds situation", "Both.holds": "kinds situation",
                   "Either.holds": "kinds situation"},
    "rules": {"ToMake": "fields", "ToSet": "field value", "ToTake": "", "Rule": "kind change condition behind",
              "can_be_used": "kinds rule situation", "state_behind": "kinds rule situation"},
    "hands": {"Hand": "name rules", "check": "kinds hands", "deeds": "kinds hand look", "deed": "kinds hand look"},
    "runs": {"Run": "world kinds hands", "Run.step": "step", "Run.on_the_way": "", "Run.done": "",
             "Run.settle": "most"},
    "situations": {"situations": "kinds kind", "steps": "kinds hands situation", "is_right": "situation"},
    "papers": {"wrong_with": "kinds hands paper", "measure": "kinds paper look"},
    "finding": {"sought": "kinds hands", "walk": "kinds hands situation steps"},
    "judging": {"stuck": "kinds hands", "ring": "kinds hands", "judge": "kinds hands", "why": "kinds look"},
    "texts": {"show_kinds": "kinds", "show_wishes": "wishes", "show_condition": "condition", "show_rule": "rule",
              "show_hands": "hands", "read_kinds": "text", "read_wishes": "kinds text", "read_condition": "text",
              "read_rule": "text", "read_hands": "text"},
    "desk": {"Desk": "", "Desk.say": "row"},
}
KINDS = Kinds(kinds=[Kind(owner=None, fields=[("size", ["s", "m"])], name="box"),
                     Kind(name="lid", fields=[], owner="box")])


class Names(unittest.TestCase):
    def test_names_and_arguments_in_their_order(self):
        for module, rows in ROWS.items():
            for name, right in rows.items():
                found = importlib.import_module("cometorest." + module)
                for word in name.split("."):
                    found = getattr(found, word)
                told = [str(one) for one in inspect.signature(found).parameters.values()] if not (
                    inspect.isclass(found) and found.__init__ is object.__init__) else []
                self.assertEqual([word for word in told if word != "self"], right.split(), (module, name))

    def test_classes_under_one_another(self):
        for base, classes in ((Condition, (Always, Wanted, Is, Meets, Owner, Not, Both, Either)),
                              (Deed, (Make, Set, Take)),
                              (Change, (ToMake, ToSet, ToTake)), (RestError, (NoText,)), (ValueError, (RestError,))):
            for one in classes:
                self.assertEqual(one.__bases__, (base,))

    def test_classes_with_just_their_fields(self):
        always = Always()
        for made, right in ((Kind("box", []), "name fields owner"), (Make("a", 1, 0, "box.0", None, ()),
                            "hand number wishing name owner_mark state"), (Set("a", 1, 0, "box.0", 1, None, "f", "v"),
                            "hand number wishing name mark owner_mark field value"),
                            (Take("a", 1, 0, "box.0", 1, None), "hand number wishing name mark owner_mark"),
                            (always, ""), (Wanted(), ""), (Is("f", "v"), "field value"), (Meets("f"), "field"),
                            (Owner("f", "v"), "field value"), (Not(always), "condition"),
                            (Both([always, always]), "conditions"), (Either([always, always]), "conditions"),
                            (ToMake([]), "fields"), (ToSet("f", None), "field value"), (ToTake(), ""),
                            (Rule("box", ToTake(), always, []), "kind change condition behind"),
                            (Hand("a", []), "name rules"), (NoText(3), "line")):
            self.assertEqual(list(vars(made)), right.split())


class ByNames(unittest.TestCase):
    """Each call with its arguments by their names, the last one first."""

    def test_stages_one_and_two(self):
        self.assertIs(is_name(thing="box"), True)
        self.assertIs(is_whole(thing=True), False)
        self.assertEqual(states(kind=KINDS.of(name="box")), [("s",), ("m",)])
        self.assertEqual(first_state(kind=KINDS.of("box")), ("s",))
        self.assertEqual(KINDS.owned(name="box"), ["lid"])
        self.assertEqual(parts_of(name="box.1", kinds=KINDS), ("box", None, 1))
        self.assertEqual(name_of(number=2, owner="box.1", kind="lid", kinds=KINDS), "box.1.lid.2")
        wishes = Wishes(rows=[("box", 1, [])], kinds=KINDS)
        self.assertEqual(wishes.wished(name="box.0"), (None,))
        self.assertIs(fits(state=("s",), wished=(None,)), True)

    def test_stage_three(self):
        world = World(limits={"box": 3}, kinds=KINDS)
        self.assertIsNone(world.put(state=("s",), name="box.0"))
        self.assertIsNone(world.tell(wishes=Wishes(KINDS, [])))
        look = world.look()
        self.assertIsInstance(look, Look)
        self.assertEqual((look.thing(name="box.0"), look.last(hand="a"), look.is_full(kind="box")),
                         ((("s",), 1), 0, False))
        made = Make(state=(), owner_mark=1, name="box.0.lid.0", wishing=1, number=1, hand="a")
        changed = Set(value="m", field="size", owner_mark=None, mark=1, name="box.0", wishing=1, number=2, hand="a")
        taken = Take(owner_mark=None, mark=3, name="box.0", wishing=1, number=3, hand="a")
        self.assertEqual([world.do(deed=one) for one in (made, changed, taken)], ["done"] * 3)

    def test_stage_four(self):
        here = ("box", None, None, ("s",))
        condition = Both(conditions=[Always(), Not(condition=Meets(field="size")), Is(value="s", field="size"),
                                     Either(conditions=[Always(), Owner(value="s", field="size")])])
        self.assertIs(condition.holds(situation=here, kinds=KINDS), True)
        rule = Rule(behind=[], condition=Always(), change=ToSet(value="m", field="size"), kind="box")
        self.assertEqual(ToMake(fields=["size"]).fields, ["size"])
        self.assertIs(can_be_used(situation=here, rule=rule, kinds=KINDS), True)
        self.assertEqual(state_behind(situation=here, rule=rule, kinds=KINDS), ("m",))
        hand = Hand(rules=[rule], name="a")
        self.assertIsNone(check(hands=[hand], kinds=KINDS))
        look = World(KINDS).look()
        self.assertEqual((deeds(look=look, hand=hand, kinds=KINDS), deed(look=look, hand=hand, kinds=KINDS)),
                         ([], None))

    def test_stages_five_to_ten(self):
        run = Run(hands=[], kinds=KINDS, world=World(KINDS))
        self.assertIsNone(run.step(step=("come", 0)))
        self.assertIs(run.settle(most=0), True)
        self.assertEqual(len(situations(kind="lid", kinds=KINDS)), 8)
        self.assertEqual(steps(situation=("box", None, None, None), hands=[], kinds=KINDS), [])
        self.assertIs(is_right(situation=("box", None, None, None)), True)
        paper = sought(hands=[], kinds=KINDS)[1]
        self.assertIsNone(wrong_with(paper=paper, hands=[], kinds=KINDS))
        self.assertEqual(measure(look=World(KINDS).look(), paper=paper, kinds=KINDS), 0)
        hands = [Hand("a", [Rule("box", ToSet("size", "s"), Always(), [])])]
        told = walk(steps=[("a", 0)], situation=("box", None, None, ("s",)), hands=hands, kinds=KINDS)
        self.assertEqual(told[1], "box.0")
        self.assertEqual(stuck(hands=[], kinds=KINDS)[0][0], "box")
        self.assertIsNone(ring(hands=[], kinds=KINDS))
        self.assertEqual(judge(hands=[], kinds=KINDS)[0], "stuck")
        self.assertEqual(why(look=World(KINDS).look(), kinds=KINDS), {})
        self.assertEqual(Desk().say(row="kinds\nkind a"), "ok")


if __name__ == "__main__":
    unittest.main()
