"""Points [2], [21] to [24]: runs, their steps, what was done, and settling."""

import inspect
import unittest

from cometorest.conditions import Always, Is, Meets, Not, Wanted
from cometorest.deeds import Deed, Make, Set, Take
from cometorest.errors import NoRule, NoStep, NoWish, TooMany
from cometorest.hands import Hand, deed
from cometorest.kinds import Kind, Kinds
from cometorest.rules import Rule, ToMake, ToSet, ToTake
from cometorest.runs import Run
from cometorest.wishes import Wishes
from cometorest.world import World
from tests.strange import NO_LISTS, NO_TEXTS, NO_WHOLES, Alike, AlikeKey

KINDS = Kinds([
    Kind("box", [("size", ["s", "m", "l"])]),
    Kind("lid", [("shut", ["no", "yes"])], "box"),
    Kind("bag", []),
])


def rule(kind, change, condition=None, behind=()):
    return Rule(kind, change, Always() if condition is None else condition, list(behind))


def maker(name="anna"):
    """Makes all that is wished and takes all that isn't."""
    rules = []
    for kind in ("box", "lid", "bag"):
        rules += [rule(kind, ToMake([])), rule(kind, ToTake(), Not(Wanted()))]
    return Hand(name, rules)


def setter(name="otto"):
    """Sets what isn't as wished."""
    return Hand(name, [rule("box", ToSet("size", None), Not(Meets("size"))),
                       rule("lid", ToSet("shut", None), Not(Meets("shut")))])


def turner(name="turn"):
    """Never comes to rest where there is a lid."""
    return Hand(name, [rule("lid", ToSet("shut", "yes"), Is("shut", "no")),
                       rule("lid", ToSet("shut", "no"), Is("shut", "yes"))])


ROWS = [("box", 2, [("size", "m")]), ("lid", 1, [("shut", "yes")])]


def begin(things=(), rows=(), hands=None, limits=None):
    world = World(KINDS, limits)
    for name, state in things:
        world.put(name, state)
    if rows:
        world.tell(Wishes(KINDS, list(rows)))
    return Run(world, KINDS, [maker(), setter()] if hands is None else hands), world


def all_of(run, world):
    """All that is to be seen of a run and its world."""
    look = world.look()
    return ([one.parts() for one in run.on_the_way()], run.done(), [(name, look.thing(name)) for name in look.names()],
            look.turn(), look.wanted().rows, [look.last(name) for name in ("anna", "otto", "turn")])


class Made(unittest.TestCase):
    def test_a_run_at_its_beginning(self):
        run, world = begin([("box.0", ("s",)), ("box.0.lid.0", ("no",))], ROWS)
        self.assertEqual(run.on_the_way(), [])
        self.assertEqual(run.done(), 0)
        self.assertEqual(run.step(("look", "anna", 0)).parts(), ("anna", 1, 1, "box.1", None, ("s",)))
        self.assertEqual(run.step(("look", "otto", 0)).parts(), ("otto", 1, 1, "box.0", 1, None, "size", "m"))
        self.assertEqual(world.look().names(), ["box.0", "box.0.lid.0"])

    def test_it_works_on_this_very_world(self):
        run, world = begin(rows=ROWS)
        run.step(("look", "anna", 0))
        self.assertEqual(run.step(("come", 0)), "done")
        self.assertEqual(world.look().names(), ["box.0"])
        run.step(("wish", Wishes(KINDS, [])))
        self.assertEqual((world.look().turn(), world.look().wanted().rows), (2, []))

    def test_a_run_begun_behind_deeds_and_wishes(self):
        world = World(KINDS)
        world.put("bag.0", ())
        self.assertEqual(world.do(Take("anna", 4, 0, "bag.0", 1, None)), "done")
        world.put("bag.1", ())
        world.tell(Wishes(KINDS, []))
        run = Run(world, KINDS, [maker()])
        self.assertEqual(run.done(), 0)
        self.assertEqual(run.step(("look", "anna", 7)).parts(), ("anna", 5, 1, "bag.1", 2, None))

    def test_names_of_arguments_and_fields(self):
        self.assertEqual(list(inspect.signature(Run).parameters), ["world", "kinds", "hands"])
        world = World(KINDS)
        run = Run(hands=[maker()], kinds=KINDS, world=world)
        self.assertIs(run.world, world)
        self.assertIs(run.kinds, KINDS)
        self.assertEqual([hand.name for hand in run.hands], ["anna"])
        self.assertIsNone(run.step(step=("look", "anna", 0)))
        self.assertIs(run.settle(most=0), True)

    def test_hands_that_are_none(self):
        def refuses(hands):
            with self.assertRaises(NoRule, msg=hands) as caught:
                Run(World(KINDS), KINDS, hands)
            self.assertIs(caught.exception.__class__, NoRule)
        for thing in NO_LISTS + [maker(), (maker(),), {"anna": maker()}]:
            refuses(thing)
        for thing in NO_TEXTS + ["anna", rule("box", ToTake()), Hand]:
            refuses([thing])
            refuses([maker(), thing])
        refuses([maker(), maker()])
        refuses([maker("a"), setter("b"), turner("a")])

    def test_hands_that_do_not_suit(self):
        for wrong in (rule("cup", ToTake()), rule("box", ToTake(), behind=["cup"]), rule("box", ToMake(["shut"])),
                      rule("box", ToSet("size", "xl")), rule("box", ToTake(), Is("size", "yes"))):
            with self.assertRaises(NoRule):
                Run(World(KINDS), KINDS, [maker(), Hand("otto", [wrong])])

    def test_no_hands(self):
        run, world = begin([("box.0", ("s",))], hands=[])
        self.assertIs(run.settle(0), True)
        with self.assertRaises(NoStep):
            run.step(("look", "anna", 0))
        self.assertIsNone(run.step(("come", 0)))
        self.assertIsNone(run.step(("wish", Wishes(KINDS, ROWS))))
        self.assertEqual(world.look().turn(), 1)

    def test_the_list_of_hands_changed_behind(self):
        hands = [maker()]
        run = Run(World(KINDS), KINDS, hands)
        run.step(("wish", Wishes(KINDS, ROWS)))
        hands.append(turner())
        with self.assertRaises(NoStep):
            run.step(("look", "turn", 0))
        hands.clear()
        self.assertEqual(run.step(("look", "anna", 0)).name, "box.0")
        self.assertEqual(hands, [])


class Looks(unittest.TestCase):
    def test_each_age(self):
        run, world = begin(rows=[("bag", 9, [])])
        for _ in range(9):
            run.step(("look", "anna", 0))
            self.assertEqual(run.step(("come", 0)), "done")
        self.assertIsNone(run.step(("look", "anna", 0)))
        self.assertEqual(run.on_the_way(), [])
        for age in range(1, 10):
            sent = run.step(("look", "anna", age))
            self.assertEqual(sent.parts(), ("anna", 10 - age, 1, f"bag.{9 - age}", None, ()), age)
        for age in (9, 10, 11, 50, 10 ** 11):
            self.assertEqual(run.step(("look", "anna", age)).parts(), ("anna", 1, 1, "bag.0", None, ()), age)
        self.assertEqual(len(run.on_the_way()), 14)
        self.assertEqual(len(world.look().names()), 9)

    def test_one_look_behind_each_wishing(self):
        run, _ = begin([("box.0", ("s",))])
        run.step(("wish", Wishes(KINDS, ROWS)))
        run.step(("wish", Wishes(KINDS, [("bag", 1, [])])))
        told = [run.step(("look", "anna", age)).parts() for age in range(5)]
        self.assertEqual(told[0], ("anna", 1, 2, "bag.0", None, ()))
        self.assertEqual(told[1], ("anna", 1, 1, "box.0.lid.0", 1, ("no",)))
        self.assertEqual(told[2], ("anna", 1, 0, "box.0", 1, None))
        self.assertEqual(told[3:], [told[2], told[2]])

    def test_no_look_is_kept_of_what_is_not_done(self):
        run, _ = begin([("box.0", ("s",))], hands=[maker(), turner()])
        run.step(("look", "anna", 0))
        self.assertEqual(run.step(("twice", 0)), "done")
        self.assertEqual(run.step(("twice", 0)), "old")
        self.assertEqual(run.step(("lost", 0)), None)
        self.assertIsNone(run.step(("come", 0)))
        self.assertIsNone(run.step(("look", "turn", 0)))
        self.assertIsNone(run.step(("look", "anna", 0)))
        self.assertEqual(run.step(("look", "anna", 1)).parts(), ("anna", 1, 0, "box.0", 1, None))

    def test_what_is_told_is_what_the_hand_does_and_is_sent(self):
        run, world = begin([("box.0", ("s",)), ("box.0.lid.0", ("no",)), ("bag.3", ())], ROWS)
        for hand in (maker(), setter()):
            right = deed(KINDS, hand, world.look())
            told = run.step(("look", hand.name, 0))
            self.assertIsInstance(told, Deed)
            self.assertIs(told.__class__, right.__class__)
            self.assertEqual(told.parts(), right.parts())
            self.assertIs(run.on_the_way()[-1], told)
        self.assertEqual([one.__class__ for one in run.on_the_way()], [Take, Set])
        self.assertEqual(world.look().names(), ["bag.3", "box.0", "box.0.lid.0"])

    def test_looks_that_send_nothing(self):
        run, _ = begin(hands=[maker(), Hand("idle", [])])
        for step in (("look", "anna", 0), ("look", "idle", 0), ("look", "idle", 5)):
            self.assertIsNone(run.step(step))
        self.assertEqual((run.on_the_way(), run.done()), ([], 0))

    def test_a_late_deed_of_an_elder_look(self):
        run, world = begin([("box.0", ("s",))], [("box", 1, [("size", "m")])], hands=[setter("a"), setter("b")])
        run.step(("look", "a", 0))
        run.step(("look", "b", 0))
        self.assertEqual(run.step(("come", 0)), "done")
        self.assertEqual(run.step(("come", 0)), "late")
        self.assertEqual(run.done(), 1)
        run.step(("wish", Wishes(KINDS, [("box", 1, [("size", "l")])])))
        self.assertEqual(run.step(("look", "b", 1)), None)
        self.assertEqual(run.step(("look", "b", 2)).parts(), ("b", 1, 1, "box.0", 1, None, "size", "m"))
        self.assertEqual(run.step(("come", 0)), "wish")
        self.assertEqual(world.look().thing("box.0"), (("m",), 2))

    def test_a_making_that_finds_its_kind_full(self):
        run, world = begin(rows=[("bag", 2, [])], hands=[maker("a"), Hand("b", [rule("bag", ToMake([]))])],
                           limits={"bag": 1})
        run.step(("look", "a", 0))
        world_words = [run.step(("look", "b", 0)).name, run.step(("come", 0)), run.step(("come", 0))]
        self.assertEqual(world_words, ["bag.0", "done", "late"])
        self.assertIsNone(run.step(("look", "b", 0)))


def sent_three(rows=(("bag", 3, []),)):
    """Three deeds on their way, of three hands, that don't hinder one another."""
    hands = [Hand("a", [rule("bag", ToMake([]))]), Hand("b", [rule("box", ToTake())]),
             Hand("c", [rule("lid", ToSet("shut", "yes"))])]
    run, world = begin([("box.0", ("s",)), ("box.1", ("s",)), ("box.1.lid.0", ("no",))], rows, hands)
    for name in "abc":
        run.step(("look", name, 0))
    return run, world


class OnTheWay(unittest.TestCase):
    def names(self, run):
        return [one.hand for one in run.on_the_way()]

    def test_in_the_order_in_which_they_were_sent(self):
        run, _ = sent_three()
        self.assertEqual(self.names(run), ["a", "b", "c"])
        run.step(("look", "a", 0))
        self.assertEqual(self.names(run), ["a", "b", "c", "a"])

    def test_come_at_each_place(self):
        for place, left in enumerate((["b", "c"], ["a", "c"], ["a", "b"])):
            run, world = sent_three()
            self.assertEqual(run.step(("come", place)), "done")
            self.assertEqual(self.names(run), left)
            self.assertEqual(run.done(), 1)
            self.assertEqual(world.look().last("abc"[place]), 1)
            self.assertEqual([world.look().last(name) for name in left], [0, 0])

    def test_twice_at_each_place(self):
        for place in range(3):
            run, world = sent_three()
            self.assertEqual(run.step(("twice", place)), "done")
            self.assertEqual(self.names(run), ["a", "b", "c"])
            self.assertEqual(run.done(), 1)
            before = all_of(run, world)
            self.assertEqual(run.step(("twice", place)), "old")
            self.assertEqual(all_of(run, world), before)
            self.assertEqual(run.step(("come", place)), "old")
            self.assertEqual(len(run.on_the_way()), 2)
            self.assertEqual(run.done(), 1)

    def test_lost_at_each_place(self):
        for place, left in enumerate((["b", "c"], ["a", "c"], ["a", "b"])):
            run, world = sent_three()
            before = all_of(run, world)
            self.assertIsNone(run.step(("lost", place)))
            self.assertEqual(self.names(run), left)
            self.assertEqual(all_of(run, world)[1:], before[1:])

    def test_places_that_none_is_at(self):
        run, world = sent_three()
        before = all_of(run, world)
        for word in ("come", "twice", "lost"):
            for place in (3, 4, 100, 10 ** 11):
                self.assertIsNone(run.step((word, place)))
                self.assertEqual(all_of(run, world), before)
        run, world = begin()
        for word in ("come", "twice", "lost"):
            self.assertIsNone(run.step((word, 0)))

    def test_all_come_and_the_places_move_up(self):
        run, world = sent_three()
        self.assertEqual([run.step(("come", 1)) for _ in range(2)], ["done", "done"])
        self.assertEqual([run.step(("come", 1)), run.step(("come", 0)), run.step(("come", 0))], [None, "done", None])
        self.assertEqual(run.done(), 3)
        self.assertEqual(world.look().names(), ["bag.0", "box.1", "box.1.lid.0"])

    def test_the_told_list_changed(self):
        run, _ = sent_three()
        told = run.on_the_way()
        self.assertIs(told.__class__, list)
        told.clear()
        self.assertEqual(self.names(run), ["a", "b", "c"])
        told = run.on_the_way()
        told.reverse()
        told.append(None)
        self.assertEqual(self.names(run), ["a", "b", "c"])
        self.assertIsNot(run.on_the_way(), run.on_the_way())
        kept = run.on_the_way()
        run.step(("lost", 0))
        self.assertEqual(len(kept), 3)


class Wishing(unittest.TestCase):
    def test_deeds_on_their_way_stay_and_the_count_is_nought(self):
        run, world = sent_three()
        run.step(("twice", 0))
        run.step(("come", 1))
        self.assertEqual(run.done(), 2)
        self.assertIsNone(run.step(("wish", Wishes(KINDS, ROWS))))
        self.assertEqual(run.done(), 0)
        self.assertEqual([one.hand for one in run.on_the_way()], ["a", "c"])
        self.assertEqual(world.look().turn(), 2)
        self.assertEqual(world.look().wanted().rows, ROWS)
        self.assertEqual([run.step(("come", 0)), run.step(("come", 0))], ["old", "wish"])
        self.assertEqual(run.done(), 0)
        run.step(("look", "c", 0))
        self.assertEqual(run.step(("come", 0)), "done")
        self.assertEqual(run.done(), 1)

    def test_the_same_wishes_again(self):
        run, world = begin(rows=ROWS)
        run.step(("look", "anna", 0))
        run.step(("wish", Wishes(KINDS, ROWS)))
        self.assertEqual(world.look().turn(), 2)
        self.assertEqual(run.step(("come", 0)), "wish")

    def test_rows_changed_behind(self):
        run, world = begin()
        wishes = Wishes(KINDS, ROWS)
        run.step(("wish", wishes))
        wishes.rows.clear()
        self.assertEqual(world.look().wanted().rows, ROWS)

    def test_wishes_that_are_none(self):
        run, world = sent_three()
        run.step(("twice", 0))
        before = all_of(run, world)
        other = Kinds([Kind("cup", [])])
        for thing in NO_TEXTS + ["", "want box 1", ROWS, [], Wishes, KINDS, world, Wishes(other, [("cup", 1, [])])]:
            with self.assertRaises(NoWish, msg=thing) as caught:
                run.step(("wish", thing))
            self.assertIs(caught.exception.__class__, NoWish)
            self.assertEqual(all_of(run, world), before)

    def test_too_many_wishes(self):
        run, world = sent_three()
        before = all_of(run, world)
        # Of other kinds these rows wish for sixty; of the world's, where lids are owned, for many more.
        loose = Kinds([Kind("box", []), Kind("lid", [])])
        with self.assertRaises(TooMany):
            run.step(("wish", Wishes(loose, [("box", 30, []), ("lid", 30, [])])))
        self.assertEqual(all_of(run, world), before)
        self.assertIsNone(run.step(("wish", Wishes(loose, [("box", 30, []), ("lid", 1, [])]))))
        self.assertEqual(len(world.look().wanted().names()), 60)


class NoSteps(unittest.TestCase):
    def refuses(self, run, world, thing):
        before = all_of(run, world)
        with self.assertRaises(NoStep, msg=thing) as caught:
            run.step(thing)
        self.assertIs(caught.exception.__class__, NoStep)
        self.assertEqual(all_of(run, world), before, thing)
        self.assertEqual(run.step(("look", "a", 50)).number, 1)
        self.assertIsNone(run.step(("lost", len(before[0]))))

    def refuses_all(self, things):
        run, world = sent_three()
        run.step(("twice", 0))
        for thing in things:
            self.refuses(run, world, thing)

    def test_no_tuples(self):
        self.refuses_all(NO_TEXTS + ["", "look", "come 0", ["look", "a", 0], ["come", 0], ["wish", Wishes(KINDS, [])],
                                     {"look": "a"}, Wishes(KINDS, []), AlikeKey(), Hand("a", [])])

    def test_strange_words(self):
        for word in NO_TEXTS + ["", "Look", "look ", "LOOK", "see", "comes", "settle", "done", AlikeKey()]:
            self.refuses_all([(word,), (word, 0), (word, "a"), (word, "a", 0), (word, Wishes(KINDS, []))])

    def test_too_few_and_too_many_parts(self):
        wishes = Wishes(KINDS, [])
        self.refuses_all([(), ("look",), ("look", "a"), ("look", 0), ("look", "a", 0, 0), ("look", "a", 0, None),
                          ("look", ("a", 0)), ("come",), ("come", 0, 0), ("come", 0, None), ("twice",), ("twice", 0, 1),
                          ("lost",), ("lost", 0, 0), ("wish",), ("wish", wishes, wishes), ("wish", wishes, 0),
                          ("wish", None, None), ("come", (0,)), (("come", 0),)])

    def test_strange_hands(self):
        self.refuses_all([("look", name, 0) for name in NO_TEXTS + [
            "", "d", "A", "a ", "ab", "anna", ("a",), Hand("a", []), AlikeKey(), Hand("a", [rule("bag", ToMake([]))])]])

    def test_ages_and_places(self):
        for thing in NO_WHOLES + [-1, -2, -10 ** 9, "0", "-1", Alike(), AlikeKey()]:
            self.refuses_all([("look", "a", thing), ("come", thing), ("twice", thing), ("lost", thing)])

    def test_a_refused_step_keeps_no_look(self):
        run, _ = begin(rows=[("bag", 2, [])])
        run.step(("look", "anna", 0))
        run.step(("come", 0))
        for thing in (("come", -1), ("wish",), ("look", "anna", True), None):
            with self.assertRaises(NoStep):
                run.step(thing)
        with self.assertRaises(NoWish):
            run.step(("wish", None))
        self.assertEqual(run.step(("look", "anna", 1)).parts(), ("anna", 1, 1, "bag.0", None, ()))


class Done(unittest.TestCase):
    def test_each_way_of_doing_counts(self):
        run, _ = sent_three()
        self.assertEqual(run.done(), 0)
        run.step(("come", 0))
        self.assertEqual(run.done(), 1)
        run.step(("twice", 0))
        run.step(("twice", 0))
        self.assertEqual(run.done(), 2)
        run.step(("lost", 0))
        self.assertEqual(run.done(), 2)
        self.assertIs(run.settle(0), False)
        self.assertEqual(run.done(), 3)
        self.assertIs(run.settle(1), False)
        self.assertEqual(run.done(), 4)

    def test_settling_counts_on(self):
        run, _ = begin(rows=ROWS)
        self.assertIs(run.settle(100), True)
        # Two boxes and two lids, each made and then set.
        self.assertEqual(run.done(), 8)
        self.assertIs(run.settle(100), True)
        self.assertEqual(run.done(), 8)
        run.step(("wish", Wishes(KINDS, [])))
        self.assertEqual(run.done(), 0)


class Settled(unittest.TestCase):
    def test_with_nothing_on_the_way(self):
        run, world = begin([("bag.5", ()), ("box.0", ("l",))], ROWS)
        self.assertIs(run.settle(50), True)
        look = world.look()
        self.assertEqual([(name, look.thing(name)[0]) for name in look.names()],
                         [("box.0", ("m",)), ("box.0.lid.0", ("yes",)), ("box.1", ("m",)), ("box.1.lid.0", ("yes",))])
        self.assertEqual(run.on_the_way(), [])

    def test_hands_take_turns_in_the_order_of_the_list(self):
        # Whoever comes first makes the first bag.
        for order in ("ab", "ba"):
            hands = [Hand(name, [rule("bag", ToMake([]))]) for name in order]
            run, world = begin(rows=[("bag", 3, [])], hands=hands)
            self.assertIs(run.settle(3), True)
            self.assertEqual([world.look().last(name) for name in order], [2, 1])

    def test_one_deed_of_each_hand_in_a_turn(self):
        run, world = begin([("box.0", ("s",))], [("box", 1, [("size", "m")]), ("lid", 1, []), ("bag", 2, [])],
                           hands=[maker(), setter()])
        self.assertIs(run.settle(2), False)
        look = world.look()
        self.assertEqual([(name, look.thing(name)) for name in look.names()],
                         [("bag.0", ((), 2)), ("box.0", (("m",), 3))])

    def test_what_is_on_its_way_comes_first_and_in_order(self):
        hands = [Hand("a", [rule("box", ToSet("size", "m"), Is("size", "s"))]),
                 Hand("b", [rule("box", ToSet("size", "l"), Is("size", "s"))])]
        run, world = begin([("box.0", ("s",))], hands=hands)
        run.step(("look", "b", 0))
        run.step(("look", "a", 0))
        self.assertIs(run.settle(1), True)
        self.assertEqual(world.look().thing("box.0"), (("l",), 2))
        self.assertEqual((run.on_the_way(), run.done()), ([], 1))

    def test_by_nought(self):
        run, world = begin()
        self.assertIs(run.settle(0), True)
        run, world = begin(rows=ROWS)
        before = all_of(run, world)
        self.assertIs(run.settle(0), False)
        self.assertEqual(all_of(run, world), before)

    def test_by_just_as_many_as_are_wanted_and_one_less(self):
        # The bag is taken, box.1 and both lids are made and set.
        for most in range(10):
            run, _ = begin([("bag.0", ()), ("box.0", ("m",))], ROWS)
            self.assertIs(run.settle(most), most >= 7, most)
            self.assertEqual(run.done(), min(most, 7))
            self.assertEqual(run.on_the_way(), [])

    def test_those_on_their_way_are_counted(self):
        for most in range(6):
            run, world = begin([("bag.0", ()), ("box.0", ("s",))], [("box", 1, [("size", "m")]), ("lid", 1, [])])
            run.step(("look", "anna", 0))
            run.step(("look", "otto", 0))
            self.assertIs(run.settle(most), most >= 3, most)
            self.assertEqual(run.done(), min(max(most, 2), 3))
            self.assertEqual(run.on_the_way(), [])

    def test_more_on_their_way_than_told(self):
        # All of them come; at rest behind them, it is settled.
        run, world = begin([("bag.0", ()), ("box.0", ("s",))], [("box", 1, [("size", "m")])])
        run.step(("look", "anna", 0))
        run.step(("look", "otto", 0))
        self.assertIs(run.settle(0), True)
        self.assertEqual(run.done(), 2)

    def test_what_is_not_done_is_not_counted(self):
        run, world = begin(rows=[("bag", 2, [])])
        for _ in range(5):
            run.step(("look", "anna", 0))
        self.assertIs(run.settle(2), True)
        self.assertEqual(run.done(), 2)
        self.assertEqual(run.on_the_way(), [])

    def test_done_ahead_of_the_settling_is_not_counted(self):
        run, _ = begin(rows=[("bag", 4, [])])
        run.step(("look", "anna", 0))
        run.step(("twice", 0))
        self.assertIs(run.settle(3), True)
        self.assertEqual(run.done(), 4)

    def test_hands_that_never_rest(self):
        run, world = begin([("box.0", ("s",)), ("box.0.lid.0", ("no",))], [("box", 1, []), ("lid", 1, [])],
                           hands=[maker(), turner()])
        for most in (0, 1, 2, 7):
            done = run.done()
            self.assertIs(run.settle(most), False)
            self.assertEqual(run.done(), done + most)
            self.assertEqual(run.on_the_way(), [])
        self.assertEqual(world.look().thing("box.0.lid.0"), (("no",), 12))

    def test_settled_looks_are_kept(self):
        run, _ = begin(rows=[("bag", 3, [])])
        run.settle(3)
        self.assertEqual(run.step(("look", "anna", 1)).parts(), ("anna", 3, 1, "bag.2", None, ()))
        self.assertEqual(run.step(("look", "anna", 3)).parts(), ("anna", 1, 1, "bag.0", None, ()))

    def test_at_a_limit_it_rests(self):
        run, world = begin(rows=[("bag", 3, [])], limits={"bag": 2})
        self.assertIs(run.settle(2), True)
        self.assertEqual(world.look().names(), ["bag.0", "bag.1"])

    def test_counts_that_are_none(self):
        run, world = sent_three()
        before = all_of(run, world)
        for thing in NO_WHOLES + [-1, -10 ** 9, "0", Alike()]:
            with self.assertRaises(NoStep, msg=thing) as caught:
                run.settle(thing)
            self.assertIs(caught.exception.__class__, NoStep)
            self.assertEqual(all_of(run, world), before)


class Kept(unittest.TestCase):
    def test_two_runs_by_turns(self):
        first, one = begin(rows=[("bag", 2, [])])
        second, other = begin(rows=[("bag", 2, [])])
        first.step(("look", "anna", 0))
        self.assertEqual(second.on_the_way(), [])
        first.step(("come", 0))
        self.assertEqual((first.done(), second.done()), (1, 0))
        self.assertEqual(second.step(("look", "anna", 0)).name, "bag.0")
        self.assertEqual((one.look().names(), other.look().names()), (["bag.0"], []))

    def test_deeds_are_made_of_their_classes(self):
        run, _ = begin([("bag.0", ())], ROWS)
        self.assertIsInstance(run.step(("look", "anna", 0)), Take)
        run.settle(1)
        self.assertIsInstance(run.step(("look", "anna", 0)), Make)


if __name__ == "__main__":
    unittest.main()
