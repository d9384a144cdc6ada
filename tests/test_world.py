"""Points [2], [11], [12], [14]: worlds, what is put into them, told to them, and done by them."""

import copy
import inspect
import unittest

from cometorest.deeds import Make, Set, Take
from cometorest.errors import NoDeed, NoLimit, NoName, NoPlace, NoState, NoWish, TooMany
from cometorest.kinds import Kind, Kinds
from cometorest.wishes import Wishes
from cometorest.world import Look, World
from tests.strange import NO_TEXTS, NO_WHOLES, Alike, AlikeKey

KINDS = Kinds([
    Kind("box", [("size", ["s", "m", "l"])]),
    Kind("lid", [("colour", ["red", "grey"]), ("shut", ["no", "yes"])], "box"),
    Kind("knob", [], "lid"),
    Kind("foot", [], "box"),
    Kind("bag", []),
])
NO_THINGS = NO_TEXTS + [
    "", "box", "box.", "box.00", "box.1234567", "cup.0", "lid.0", "bag.0.lid.0", "box.0.knob.0", "box.0.lid", "box.0.",
]


def seen(world):
    """All that a look tells of these kinds, hands and things."""
    look = world.look()
    return (
        [(name, look.thing(name)) for name in look.names()], look.wanted().rows, look.wanted().names(), look.turn(),
        [look.last(hand) for hand in ("anna", "otto", "eve")], [look.is_full(kind) for kind in KINDS.order()],
    )


def filled(limits=None):
    world = World(KINDS, limits)
    for name, state in (
        ("box.0", ("m",)), ("box.0.lid.0", ("red", "no")), ("box.0.lid.0.knob.0", ()), ("box.0.lid.1", ("grey", "yes")),
        ("box.1", ("s",)), ("box.1.lid.0", ("red", "yes")), ("box.10", ("l",)), ("box.10.foot.0", ()), ("bag.0", ()),
    ):
        world.put(name, state)
    return world


class Limits(unittest.TestCase):
    def refuses(self, limits):
        with self.assertRaises(NoLimit, msg=limits) as caught:
            World(KINDS, limits)
        self.assertIs(caught.exception.__class__, NoLimit)

    def fulls(self, world):
        return [kind for kind in KINDS.order() if world.look().is_full(kind)]

    def test_none(self):
        for world in (World(KINDS), World(KINDS, None), World(KINDS, {}), World(limits=None, kinds=KINDS)):
            self.assertEqual(self.fulls(world), [])
            for number in range(61):
                world.put(f"bag.{number}", ())
            self.assertEqual(self.fulls(world), [])
        self.assertEqual(list(inspect.signature(World).parameters), ["kinds", "limits"])

    def test_of_some_kinds(self):
        world = World(KINDS, {"lid": 2, "bag": 1, "knob": 0})
        self.assertEqual(self.fulls(world), ["knob"])
        world.put("bag.7", ())
        self.assertEqual(self.fulls(world), ["bag", "knob"])
        for name, state in (("box.0", ("m",)), ("box.1", ("m",)), ("box.0.lid.0", ("red", "no"))):
            world.put(name, state)
        self.assertEqual(self.fulls(world), ["bag", "knob"])
        world.put("box.1.lid.0", ("red", "no"))
        self.assertEqual(self.fulls(world), ["bag", "lid", "knob"])
        with self.assertRaises(NoPlace):
            world.put("box.1.lid.1", ("red", "no"))

    def test_what_is_no_dict(self):
        for thing in [True, False, 0, 1, "", "bag", object(), Alike(), KINDS]:
            self.refuses(thing)
        for thing in ([], ["bag"], [("bag", 1)], (), ("bag", 1)):
            self.refuses(thing)

    def test_what_is_no_kind(self):
        strange = ["", "cup", "Bag", "bags", "bag.0", "size", "m"]
        for thing in [None, True, False, 0, 1, (), ("bag",), object(), AlikeKey()] + strange:
            self.refuses({thing: 1})
            self.refuses({"bag": 1, thing: 1})
            self.refuses({thing: 1, "bag": 1})

    def test_what_is_no_number_from_0_on(self):
        for thing in NO_WHOLES + [-1, -60]:
            self.refuses({"bag": thing})
            self.refuses({"box": 1, "bag": thing})
            self.refuses({"bag": thing, "box": 1})

    def test_great_ones(self):
        self.assertEqual(self.fulls(World(KINDS, {"bag": 10 ** 11})), [])

    def test_a_dict_changed_behind_changes_nothing(self):
        limits = {"bag": 1}
        world = World(KINDS, limits)
        self.assertEqual(limits, {"bag": 1})
        limits["bag"] = 0
        limits["box"] = 0
        self.assertEqual(self.fulls(world), [])
        world.put("box.0", ("m",))
        world.put("bag.0", ())
        limits.clear()
        self.assertEqual(self.fulls(world), ["bag"])


class Beginning(unittest.TestCase):
    def test_without_things_and_wishes(self):
        look = World(KINDS).look()
        self.assertIsInstance(look, Look)
        self.assertEqual(look.names(), [])
        self.assertEqual(look.wanted().rows, [])
        self.assertEqual(look.turn(), 0)
        self.assertIsNone(look.thing("box.0"))


class Put(unittest.TestCase):
    def refuses(self, world, refusal, name, state):
        ahead = seen(world)
        with self.assertRaises(refusal, msg=(name, state)) as caught:
            world.put(name, state)
        self.assertIs(caught.exception.__class__, refusal)
        self.assertEqual(seen(world), ahead)

    def test_marks_are_counted_on(self):
        world = World(KINDS)
        self.assertIsNone(world.put("box.3", ("m",)))
        self.assertIsNone(world.put(state=("red", "yes"), name="box.3.lid.2"))
        world.put("bag.0", ())
        look = world.look()
        self.assertEqual(look.thing("box.3"), (("m",), 1))
        self.assertEqual(look.thing("box.3.lid.2"), (("red", "yes"), 2))
        self.assertEqual(look.thing("bag.0"), ((), 3))

    def test_a_refused_one_has_no_mark(self):
        world = World(KINDS, {"bag": 0})
        for name, state in (("cup.0", ()), ("box.0", ()), ("bag.0", ()), ("box.0.foot.0", ())):
            with self.assertRaises((NoName, NoState, NoPlace)):
                world.put(name, state)
        world.put("box.0", ("s",))
        self.assertEqual(world.look().thing("box.0"), (("s",), 1))

    def test_at_any_time(self):
        world = World(KINDS)
        world.tell(Wishes(KINDS, [("bag", 1, [])]))
        world.put("bag.5", ())
        self.assertEqual(world.do(Take("anna", 1, 1, "bag.5", 1, None)), "done")
        world.put("bag.5", ())
        self.assertEqual(world.look().thing("bag.5"), ((), 2))

    def test_what_is_no_name_of_a_thing(self):
        world = filled()
        for thing in NO_THINGS:
            self.refuses(world, NoName, thing, ("m",))
            self.refuses(world, NoName, thing, None)

    def test_what_is_no_state(self):
        world = filled()
        for thing in NO_TEXTS + ["m", "", ["m"], ("xl",), ("m", "m"), ("M",), (None,), (True,), (Alike(),), (["m"],),
                                 {"m"}, {"size": "m"}]:
            self.refuses(world, NoState, "box.2", thing)
        for thing in ((), ("red",), ("no", "red"), ("red", "no", "no"), ("red", None), ["red", "no"], "rn"):
            self.refuses(world, NoState, "box.1.lid.1", thing)
        for thing in [thing for thing in NO_TEXTS if not isinstance(thing, tuple)] + ["", ("m",), [()], ((),)]:
            self.refuses(world, NoState, "bag.2", thing)

    def test_no_place(self):
        world = filled({"bag": 1})
        self.refuses(world, NoPlace, "box.0", ("m",))
        self.refuses(world, NoPlace, "box.0", ("s",))
        self.refuses(world, NoPlace, "box.0.lid.0", ("red", "no"))
        self.refuses(world, NoPlace, "box.2.lid.0", ("red", "no"))
        self.refuses(world, NoPlace, "box.0.lid.2.knob.0", ())
        self.refuses(world, NoPlace, "bag.1", ())
        self.refuses(World(KINDS, {"box": 0}), NoPlace, "box.0", ("m",))

    def test_their_order(self):
        world = filled({"bag": 1})
        self.refuses(world, NoName, "cup.0", ("none",))
        self.refuses(world, NoName, "lid.0", None)
        self.refuses(world, NoState, "box.0", ("none",))
        self.refuses(world, NoState, "box.2.lid.0", ())
        self.refuses(world, NoState, "bag.1", ("m",))

    def test_every_state_of_a_kind(self):
        world = filled()
        for number, state in enumerate([("red", "no"), ("red", "yes"), ("grey", "no"), ("grey", "yes")]):
            world.put(f"box.10.lid.{number}", state)
            self.assertEqual(world.look().thing(f"box.10.lid.{number}")[0], state)

    def test_other_kinds_have_other_limits(self):
        world = World(KINDS, {"foot": 1})
        for number in range(3):
            world.put(f"box.{number}", ("m",))
            world.put(f"box.{number}.lid.0", ("red", "no"))
        world.put("box.1.foot.0", ())
        self.refuses(world, NoPlace, "box.0.foot.0", ())
        self.refuses(world, NoPlace, "box.1.foot.1", ())


class Tell(unittest.TestCase):
    def refuses(self, world, refusal, wishes):
        ahead = seen(world)
        with self.assertRaises(refusal, msg=wishes) as caught:
            world.tell(wishes)
        self.assertIs(caught.exception.__class__, refusal)
        self.assertEqual(seen(world), ahead)

    def test_wishes_and_wishing(self):
        world = World(KINDS)
        rows = [("box", 2, [("size", "m")])]
        self.assertIsNone(world.tell(Wishes(KINDS, rows)))
        self.assertEqual(world.look().turn(), 1)
        self.assertEqual(world.look().wanted().rows, rows)
        self.assertEqual(world.look().wanted().names(), ["box.0", "box.1"])
        world.tell(wishes=Wishes(KINDS, rows))
        self.assertEqual(world.look().turn(), 2)
        world.tell(Wishes(KINDS, []))
        self.assertEqual(world.look().turn(), 3)
        self.assertEqual(world.look().wanted().rows, [])

    def test_it_changes_no_things_and_no_last_numbers(self):
        world = filled()
        world.do(Take("anna", 3, 0, "bag.0", 9, None))
        ahead = seen(world)
        world.tell(Wishes(KINDS, [("bag", 1, [])]))
        behind = seen(world)
        self.assertEqual((ahead[0], ahead[4], ahead[5]), (behind[0], behind[4], behind[5]))

    def test_what_is_no_wishes(self):
        world = filled()
        world.tell(Wishes(KINDS, [("bag", 1, [])]))
        for thing in NO_TEXTS + ["", "bag", [("bag", 1, [])], KINDS, Wishes, world]:
            self.refuses(world, NoWish, thing)

    def test_wishes_of_other_kinds_of_the_same_names(self):
        other = Kinds([
            Kind("lid", [("shut", ["yes", "no"]), ("weight", ["much"]), ("colour", ["grey", "blue"])]),
            Kind("box", []),
        ])
        world = World(KINDS)
        world.tell(Wishes(other, [("box", 2, []), ("lid", 1, [("shut", "yes"), ("colour", "grey")])]))
        wishes = world.look().wanted()
        self.assertEqual(wishes.names(), ["box.0", "box.0.lid.0", "box.1", "box.1.lid.0"])
        self.assertEqual(wishes.wished("box.1.lid.0"), ("grey", "yes"))
        self.assertEqual(wishes.wished("box.1"), (None,))
        self.refuses(world, NoWish, Wishes(other, [("lid", 1, [("weight", "much")])]))
        self.refuses(world, NoWish, Wishes(other, [("lid", 1, [("colour", "blue")])]))

    def test_wishes_of_strange_kinds(self):
        world = World(KINDS)
        other = Kinds([Kind("cup", []), Kind("bag", [])])
        self.refuses(world, NoWish, Wishes(other, [("cup", 1, [])]))
        self.refuses(world, NoWish, Wishes(other, [("bag", 1, []), ("cup", 1, [])]))
        world.tell(Wishes(other, []))
        world.tell(Wishes(other, [("bag", 1, [])]))
        self.assertEqual(world.look().wanted().names(), ["bag.0"])
        self.assertEqual(world.look().turn(), 2)

    def test_too_many_by_its_own_kinds(self):
        other = Kinds([Kind("lid", []), Kind("box", []), Kind("cup", [], "box"), Kind("bag", [("size", ["m"])])])
        world = World(KINDS)
        world.tell(Wishes(other, [("box", 5, []), ("lid", 11, [])]))
        self.assertEqual(len(world.look().wanted().names()), 60)
        self.refuses(world, TooMany, Wishes(other, [("box", 5, []), ("lid", 12, [])]))
        self.refuses(world, NoWish, Wishes(other, [("box", 5, []), ("lid", 12, []), ("bag", 1, [("size", "m")])]))

    def test_fewer_by_its_own_kinds(self):
        other = Kinds([Kind("foot", [])])
        world = World(KINDS)
        world.tell(Wishes(other, [("foot", 60, [])]))
        self.assertEqual(world.look().wanted().names(), [])

    def test_rows_changed_behind_change_nothing(self):
        wishes = Wishes(KINDS, [("box", 1, [("size", "m")])])
        world = World(KINDS)
        world.tell(wishes)
        wishes.rows[0][2].clear()
        wishes.rows.clear()
        self.assertEqual(world.look().wanted().rows, [("box", 1, [("size", "m")])])
        self.assertEqual(world.look().wanted().wished("box.0"), ("m",))


class Do(unittest.TestCase):
    def setUp(self):
        self.world = filled({"bag": 1, "lid": 3, "foot": 2})
        self.world.tell(Wishes(KINDS, []))

    def is_not_done(self, word, deed):
        ahead = seen(self.world)
        self.assertEqual(self.world.do(deed), word, deed.parts())
        self.assertEqual(seen(self.world), ahead)

    def is_done(self, deed, world=None):
        world = self.world if world is None else world
        self.assertEqual(world.do(deed), "done", deed.parts())
        self.assertEqual(world.look().last(deed.hand), deed.number)

    def test_by_the_name_of_its_argument(self):
        self.assertEqual(self.world.do(deed=Take("anna", 1, 1, "bag.0", 9, None)), "done")

    def test_what_is_no_deed(self):
        ahead = seen(self.world)
        for thing in NO_TEXTS + ["", "take", Take, ("anna", 1, 1, "bag.0", 9, None), Wishes(KINDS, [])]:
            with self.assertRaises(NoDeed, msg=thing) as caught:
                self.world.do(thing)
            self.assertIs(caught.exception.__class__, NoDeed)
        self.assertEqual(seen(self.world), ahead)

    def test_a_making(self):
        self.is_done(Make("anna", 1, 1, "box.2", None, ("l",)))
        self.is_done(Make("anna", 2, 1, "box.2.foot.9", 10, ()))
        self.assertEqual(self.world.look().thing("box.2"), (("l",), 10))
        self.assertEqual(self.world.look().thing("box.2.foot.9"), ((), 11))

    def test_a_setting(self):
        self.is_done(Set("anna", 1, 1, "box.0.lid.0", 2, 1, "shut", "yes"))
        self.assertEqual(self.world.look().thing("box.0.lid.0"), (("red", "yes"), 10))
        self.is_done(Set("anna", 2, 1, "box.0.lid.0", 10, 1, "colour", "grey"))
        self.assertEqual(self.world.look().thing("box.0.lid.0"), (("grey", "yes"), 11))
        self.assertEqual(self.world.look().thing("box.0"), (("m",), 1))
        self.assertEqual(self.world.look().thing("box.0.lid.0.knob.0"), ((), 3))

    def test_a_setting_to_the_same_value_gives_a_new_mark(self):
        self.is_done(Set("anna", 1, 1, "box.0", 1, None, "size", "m"))
        self.assertEqual(self.world.look().thing("box.0"), (("m",), 10))
        self.is_not_done("late", Set("anna", 2, 1, "box.0", 1, None, "size", "m"))
        self.is_done(Set("anna", 2, 1, "box.0", 10, None, "size", "s"))
        self.assertEqual(self.world.look().thing("box.0"), (("s",), 11))

    def test_a_taking_takes_all_that_is_owned(self):
        self.is_done(Take("anna", 1, 1, "box.0", 1, None))
        self.assertEqual(self.world.look().names(), ["bag.0", "box.1", "box.1.lid.0", "box.10", "box.10.foot.0"])

    def test_a_taking_leaves_what_is_not_owned(self):
        self.is_done(Take("anna", 1, 1, "box.1", 5, None))
        self.assertEqual(self.world.look().names(), [
            "bag.0", "box.0", "box.0.lid.0", "box.0.lid.0.knob.0", "box.0.lid.1", "box.10", "box.10.foot.0",
        ])
        self.is_done(Take("anna", 2, 1, "box.0.lid.0", 2, 1))
        self.assertEqual(self.world.look().names(), ["bag.0", "box.0", "box.0.lid.1", "box.10", "box.10.foot.0"])
        self.assertEqual(self.world.look().thing("box.0"), (("m",), 1))

    def test_a_taking_counts_no_mark(self):
        self.is_done(Take("anna", 1, 1, "box.0", 1, None))
        self.is_done(Make("anna", 2, 1, "box.0", None, ("s",)))
        self.assertEqual(self.world.look().thing("box.0"), (("s",), 10))

    def test_a_thing_made_again_has_another_mark(self):
        self.is_done(Take("anna", 1, 1, "box.1", 5, None))
        self.is_done(Make("anna", 2, 1, "box.1", None, ("s",)))
        self.is_not_done("late", Take("otto", 1, 1, "box.1", 5, None))
        self.is_not_done("late", Make("otto", 1, 1, "box.1.lid.0", 5, ("red", "no")))
        self.is_done(Make("otto", 1, 1, "box.1.lid.0", 10, ("red", "no")))

    def test_old(self):
        self.is_done(Set("anna", 5, 1, "box.0", 1, None, "size", "l"))
        for number in (1, 4, 5):
            self.is_not_done("old", Set("anna", number, 1, "box.0", 10, None, "size", "s"))
        self.is_done(Set("anna", 6, 1, "box.0", 10, None, "size", "s"))
        self.is_done(Set("anna", 60, 1, "box.0", 11, None, "size", "m"))
        self.is_not_done("old", Set("anna", 7, 1, "box.0", 12, None, "size", "s"))

    def test_what_comes_twice_is_done_once(self):
        for deed in (Make("anna", 1, 1, "box.2", None, ("l",)), Set("anna", 2, 1, "box.0", 1, None, "size", "m"),
                     Take("anna", 3, 1, "bag.0", 9, None)):
            self.is_done(deed)
            self.is_not_done("old", deed)

    def test_each_hand_has_its_own_last_number(self):
        self.is_done(Set("anna", 5, 1, "box.0", 1, None, "size", "l"))
        self.is_done(Set("otto", 1, 1, "box.0", 10, None, "size", "l"))
        look = self.world.look()
        self.assertEqual([look.last(hand) for hand in ("anna", "otto", "eve")], [5, 1, 0])

    def test_the_last_number_is_changed_by_done_alone(self):
        self.is_not_done("wish", Take("anna", 9, 0, "bag.0", 9, None))
        self.is_not_done("late", Take("anna", 9, 1, "bag.0", 8, None))
        self.is_not_done("full", Make("anna", 9, 1, "bag.1", None, ()))
        self.is_done(Take("anna", 1, 1, "bag.0", 9, None))

    def test_wish(self):
        for wishing in (0, 2, 10 ** 6):
            self.is_not_done("wish", Take("anna", 1, wishing, "bag.0", 9, None))
        self.world.tell(Wishes(KINDS, []))
        self.is_not_done("wish", Take("anna", 1, 1, "bag.0", 9, None))
        self.is_done(Take("anna", 1, 2, "bag.0", 9, None))

    def test_late_by_a_name_that_is_none_of_its_kinds(self):
        for name, owner_mark in (("cup.0", None), ("lid.0", None), ("bag.0.lid.0", 9), ("box.0.cup.0", 1),
                                 ("box.0.box.0", 1), ("box.0.knob.0", 1), ("box.0.lid.0.foot.0", 2)):
            self.is_not_done("late", Make("anna", 1, 1, name, owner_mark, ()))
            self.is_not_done("late", Set("anna", 1, 1, name, 1, owner_mark, "size", "m"))
            self.is_not_done("late", Take("anna", 1, 1, name, 1, owner_mark))

    def test_late_by_a_thing_that_is_not_there(self):
        self.is_not_done("late", Set("anna", 1, 1, "box.2", 1, None, "size", "m"))
        self.is_not_done("late", Take("anna", 1, 1, "box.2", 1, None))
        self.is_not_done("late", Take("anna", 1, 1, "box.1.lid.1", 6, 5))
        self.is_not_done("late", Set("anna", 1, 1, "box.1.lid.1", 6, 5, "shut", "no"))

    def test_late_by_a_making_of_what_is_there(self):
        self.is_not_done("late", Make("anna", 1, 1, "box.0", None, ("m",)))
        self.is_not_done("late", Make("anna", 1, 1, "box.10.foot.0", 7, ()))
        self.is_done(Make("anna", 1, 1, "box.10.foot.1", 7, ()))

    def test_late_by_another_mark(self):
        for mark in (2, 3, 9, 10, 100):
            self.is_not_done("late", Set("anna", 1, 1, "box.0", mark, None, "size", "m"))
            self.is_not_done("late", Take("anna", 1, 1, "box.0", mark, None))
        self.is_done(Take("anna", 1, 1, "box.0", 1, None))

    def test_late_by_an_owner_that_is_not_there(self):
        self.is_not_done("late", Make("anna", 1, 1, "box.2.lid.0", 1, ("red", "no")))
        self.is_not_done("late", Make("anna", 1, 1, "box.0.lid.2.knob.0", 2, ()))
        self.is_not_done("late", Take("anna", 1, 1, "box.2.lid.0", 2, 1))

    def test_late_by_another_owners_mark(self):
        self.is_done(Take("otto", 1, 1, "box.0.lid.1", 4, 1))
        for mark in (2, 3, 10):
            self.is_not_done("late", Make("anna", 1, 1, "box.0.lid.2", mark, ("red", "no")))
            self.is_not_done("late", Set("anna", 1, 1, "box.0.lid.0", 2, mark, "shut", "yes"))
            self.is_not_done("late", Take("anna", 1, 1, "box.0.lid.0", 2, mark))
        self.is_done(Make("anna", 1, 1, "box.0.lid.2", 1, ("red", "no")))
        self.is_done(Take("anna", 2, 1, "box.0.lid.0", 2, 1))

    def test_the_mark_is_that_of_the_nearest_owner(self):
        self.is_not_done("late", Take("anna", 1, 1, "box.0.lid.0.knob.0", 3, 1))
        self.is_done(Set("otto", 1, 1, "box.0", 1, None, "size", "m"))
        self.is_done(Take("anna", 1, 1, "box.0.lid.0.knob.0", 3, 2))

    def test_late_by_a_state_that_the_kind_has_not(self):
        for state in ((), ("xl",), ("m", "m"), ("red",)):
            self.is_not_done("late", Make("anna", 1, 1, "box.2", None, state))
        self.is_done(Make("anna", 1, 1, "box.2", None, ("m",)))

    def test_late_by_a_field_or_value_that_the_kind_has_not(self):
        for field, value in (("weight", "m"), ("size", "xl"), ("shut", "no"), ("m", "size")):
            self.is_not_done("late", Set("anna", 1, 1, "box.0", 1, None, field, value))
        for field, value in (("shut", "red"), ("colour", "no"), ("size", "m")):
            self.is_not_done("late", Set("anna", 1, 1, "box.0.lid.0", 2, 1, field, value))
        self.is_not_done("late", Set("anna", 1, 1, "bag.0", 9, None, "size", "m"))

    def test_full(self):
        self.is_not_done("full", Make("anna", 1, 1, "bag.1", None, ()))
        self.is_not_done("full", Make("anna", 1, 1, "box.1.lid.1", 5, ("red", "no")))
        self.is_done(Make("anna", 1, 1, "box.1.foot.0", 5, ()))
        self.is_not_done("full", Make("anna", 2, 1, "box.1.foot.1", 5, ()))
        self.is_done(Take("anna", 2, 1, "box.10", 7, None))
        self.is_done(Make("anna", 3, 1, "box.1.foot.1", 5, ()))

    def test_no_other_deeds_are_full(self):
        self.is_done(Set("anna", 1, 1, "box.0.lid.0", 2, 1, "shut", "yes"))
        self.is_done(Take("anna", 2, 1, "bag.0", 9, None))
        self.is_done(Make("anna", 3, 1, "bag.0", None, ()))

    def test_each_word_ahead_of_the_later_ones(self):
        self.is_done(Set("anna", 5, 1, "box.0", 1, None, "size", "m"))
        self.is_not_done("old", Make("anna", 5, 0, "cup.0", None, ("none",)))
        self.is_not_done("old", Make("anna", 5, 1, "cup.0", None, ("none",)))
        self.is_not_done("old", Make("anna", 5, 1, "bag.1", None, ()))
        self.is_not_done("wish", Make("anna", 6, 0, "cup.0", None, ("none",)))
        self.is_not_done("wish", Make("anna", 6, 2, "bag.1", None, ()))
        self.is_not_done("late", Make("anna", 6, 1, "bag.0", None, ()))
        self.is_not_done("late", Make("anna", 6, 1, "bag.1", None, ("m",)))
        self.is_not_done("late", Make("anna", 6, 1, "box.1.lid.1", 4, ("red", "no")))
        self.is_not_done("full", Make("anna", 6, 1, "bag.1", None, ()))

    def test_a_deed_is_not_changed(self):
        for deed in (Make("anna", 1, 1, "box.2", None, ("l",)), Set("anna", 2, 1, "box.0", 1, None, "size", "m"),
                     Take("anna", 3, 1, "bag.0", 9, None)):
            ahead = copy.deepcopy(vars(deed))
            self.is_done(deed)
            self.assertEqual(vars(deed), ahead)

    def test_two_worlds_have_nothing_in_common(self):
        other = filled()
        self.is_done(Take("anna", 1, 1, "bag.0", 9, None))
        self.assertEqual(other.look().last("anna"), 0)
        self.is_done(Take("anna", 1, 0, "bag.0", 9, None), other)


if __name__ == "__main__":
    unittest.main()
