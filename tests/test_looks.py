"""Points [2], [15]: what a look tells, and that nothing changes it."""

import unittest

from cometorest.deeds import Make, Set, Take
from cometorest.errors import NoName
from cometorest.kinds import Kind, Kinds
from cometorest.looks import names_known, situation_of
from cometorest.wishes import Wishes
from cometorest.world import Look, World
from tests.strange import NO_NAMES, NO_TEXTS, Alike

KINDS = Kinds([
    Kind("box", [("size", ["s", "m", "l"])]),
    Kind("lid", [("shut", ["no", "yes"])], "box"),
    Kind("bag", []),
])
ROWS = [("box", 1, [("size", "m")]), ("bag", 2, [])]


def make_world():
    world = World(KINDS, {"bag": 1, "lid": 2, "box": 9})
    for name, state in (("box.2", ("m",)), ("box.10", ("s",)), ("box.2.lid.0", ("no",)), ("bag.0", ())):
        world.put(name, state)
    world.tell(Wishes(KINDS, ROWS))
    return world


class Looks(unittest.TestCase):
    def tells_how_it_stood(self, look):
        self.assertEqual(look.names(), ["bag.0", "box.10", "box.2", "box.2.lid.0"])
        self.assertEqual(look.thing("box.2"), (("m",), 1))
        self.assertEqual(look.thing("box.10"), (("s",), 2))
        self.assertEqual(look.thing("box.2.lid.0"), (("no",), 3))
        self.assertEqual(look.thing("bag.0"), ((), 4))
        self.assertIsNone(look.thing("box.0"))
        self.assertEqual(look.wanted().rows, ROWS)
        self.assertEqual(look.wanted().names(), ["bag.0", "bag.1", "box.0"])
        self.assertEqual(look.turn(), 1)
        self.assertEqual([look.last(hand) for hand in ("anna", "otto")], [0, 0])
        self.assertEqual([look.is_full(kind) for kind in ("bag", "box", "lid")], [True, False, False])

    def test_what_it_tells(self):
        look = make_world().look()
        self.assertIsInstance(look, Look)
        self.tells_how_it_stood(look)

    def test_the_kinds_of_what_it_tells(self):
        look = make_world().look()
        told = look.thing("box.2")
        self.assertIs(told.__class__, tuple)
        self.assertIs(told[0].__class__, tuple)
        self.assertIs(told[1].__class__, int)
        self.assertIs(look.names().__class__, list)
        self.assertIsInstance(look.wanted(), Wishes)
        self.assertIs(look.turn().__class__, int)
        self.assertIs(look.last("anna").__class__, int)
        self.assertIs(look.is_full("bag"), True)
        self.assertIs(look.is_full("box"), False)

    def test_by_the_names_of_their_arguments(self):
        look = make_world().look()
        self.assertEqual(look.thing(name="bag.0"), ((), 4))
        self.assertEqual(look.last(hand="anna"), 0)
        self.assertIs(look.is_full(kind="bag"), True)

    def test_what_is_done_later_changes_no_look(self):
        world = make_world()
        look = world.look()
        world.put("box.3", ("l",))
        self.tells_how_it_stood(look)
        for deed in (
            Set("anna", 3, 1, "box.2", 1, None, "size", "l"),
            Make("otto", 7, 1, "box.3.lid.0", 5, ("no",)),
            Take("anna", 4, 1, "bag.0", 4, None),
            Take("anna", 5, 1, "box.2", 6, None),
        ):
            self.assertEqual(world.do(deed), "done")
            self.tells_how_it_stood(look)
        world.tell(Wishes(KINDS, []))
        self.tells_how_it_stood(look)

    def test_a_later_look_tells_what_was_done(self):
        world = make_world()
        world.look()
        world.do(Take("anna", 4, 1, "bag.0", 4, None))
        world.put("box.2.lid.1", ("yes",))
        world.tell(Wishes(KINDS, []))
        look = world.look()
        self.assertEqual(look.names(), ["box.10", "box.2", "box.2.lid.0", "box.2.lid.1"])
        self.assertIsNone(look.thing("bag.0"))
        self.assertEqual(look.thing("box.2.lid.1"), (("yes",), 5))
        self.assertEqual(look.wanted().rows, [])
        self.assertEqual(look.turn(), 2)
        self.assertEqual([look.last(hand) for hand in ("anna", "otto")], [4, 0])
        self.assertEqual([look.is_full(kind) for kind in ("bag", "box", "lid")], [False, False, True])

    def test_a_look_at_an_empty_world(self):
        look = World(KINDS).look()
        self.assertEqual(look.names(), [])
        self.assertEqual(look.wanted().names(), [])
        self.assertEqual((look.turn(), look.last("anna"), look.is_full("box")), (0, 0, False))

    def test_names_are_the_askers_own(self):
        world = make_world()
        look = world.look()
        told = look.names()
        told.append("box.0")
        told.pop(0)
        look.wanted().names().clear()
        self.tells_how_it_stood(look)
        self.tells_how_it_stood(world.look())

    def test_wishes_are_the_askers_own(self):
        world = make_world()
        look = world.look()
        told = look.wanted()
        told.rows[0][2].clear()
        told.rows.pop()
        self.tells_how_it_stood(look)
        self.tells_how_it_stood(world.look())
        self.assertEqual(look.wanted().wished("box.0"), ("m",))

    def test_strange_names_of_things(self):
        look = make_world().look()
        for thing in NO_TEXTS + ["", "box", "box.3", "box.02", "box.2.", "cup.0", "lid.0", "anna", "box.2\n"]:
            self.assertIsNone(look.thing(thing))

    def test_strange_hands(self):
        world = make_world()
        world.do(Take("anna", 4, 1, "bag.0", 4, None))
        look = world.look()
        self.assertEqual(look.last("anna"), 4)
        for thing in NO_NAMES + ["otto", "ann", "annas", "box.2", "box"]:
            self.assertEqual(look.last(thing), 0)
            self.assertIs(look.last(thing).__class__, int)

    def test_strange_kinds(self):
        look = make_world().look()
        for thing in NO_NAMES + ["cup", "boxes", "bo", "bag.0", "size", "m", Kind("bag", []), Alike()]:
            with self.assertRaises(NoName, msg=thing) as caught:
                look.is_full(thing)
            self.assertIs(caught.exception.__class__, NoName)

    def test_at_its_limit(self):
        for limit in range(4):
            world = World(KINDS, {"bag": limit})
            for number in range(limit):
                self.assertIs(world.look().is_full("bag"), False)
                world.put(f"bag.{number}", ())
            self.assertIs(world.look().is_full("bag"), True)
            self.assertIs(world.look().is_full("box"), False)

    def test_owned_things_are_counted_by_their_own_kind(self):
        world = World(KINDS, {"box": 2, "lid": 2})
        world.put("box.0", ("m",))
        world.put("box.0.lid.0", ("no",))
        self.assertIs(world.look().is_full("box"), False)
        self.assertIs(world.look().is_full("lid"), False)
        world.put("box.1", ("m",))
        self.assertIs(world.look().is_full("box"), True)
        self.assertIs(world.look().is_full("lid"), False)
        world.put("box.1.lid.0", ("no",))
        self.assertIs(world.look().is_full("lid"), True)


class Situations(unittest.TestCase):
    def setUp(self):
        world = World(KINDS)
        for name, state in (("box.0", ("m",)), ("box.0.lid.4", ("yes",)), ("bag.3", ())):
            world.put(name, state)
        world.tell(Wishes(KINDS, [("box", 2, [("size", "l")]), ("lid", 1, [])]))
        self.look = world.look()

    def test_names_of_what_is_there_or_wished(self):
        self.assertEqual(names_known(self.look), [
            "bag.3", "box.0", "box.0.lid.0", "box.0.lid.4", "box.1", "box.1.lid.0",
        ])

    def test_the_situation_of_a_name(self):
        for name, situation in (
            ("bag.3", ("bag", None, None, ())),
            ("box.0", ("box", ("l",), None, ("m",))),
            ("box.1", ("box", ("l",), None, None)),
            ("box.0.lid.0", ("lid", (None,), ("m",), None)),
            ("box.0.lid.4", ("lid", None, ("m",), ("yes",))),
            ("box.7", ("box", None, None, None)),
        ):
            self.assertEqual(situation_of(KINDS, self.look, name), situation)

    def test_a_thing_whose_owner_is_not_there_has_none(self):
        self.assertIsNone(situation_of(KINDS, self.look, "box.1.lid.0"))
        self.assertIsNone(situation_of(KINDS, self.look, "box.7.lid.0"))


if __name__ == "__main__":
    unittest.main()
