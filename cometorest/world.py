"""Worlds: things with states and marks, wishes, and what is done to them."""

from cometorest.deeds import Deed, Make
from cometorest.errors import NoDeed, NoLimit, NoName, NoPlace, NoState, NoWish
from cometorest.kinds import is_name, is_state, is_whole_from
from cometorest.looks import Look
from cometorest.names import parts_of
from cometorest.wishes import Wishes


def are_limits(kinds, thing):
    if not isinstance(thing, dict):
        return False
    if not all([is_name(kind) and kind in kinds.order() for kind in thing]):
        return False
    return all([is_whole_from(0, many) for many in thing.values()])


def is_late(kinds, seen, deed):
    try:
        parts = parts_of(kinds, deed.name)
    except NoName:
        return True
    if seen.mark_of(deed.name) != deed.seen_mark() or seen.mark_of(parts[1]) != deed.owner_mark:
        return True
    return not deed.suits_kind(kinds.of(parts[0]))


def word_for(kinds, seen, deed):
    if deed.number <= seen.last(deed.hand):
        return "old"
    if deed.wishing != seen.turn():
        return "wish"
    if is_late(kinds, seen, deed):
        return "late"
    if isinstance(deed, Make) and seen.is_full(parts_of(kinds, deed.name)[0]):
        return "full"
    return "done"


class World:
    def __init__(self, kinds, limits=None):
        if limits is not None and not are_limits(kinds, limits):
            raise NoLimit("limits are a dict of kinds' names to whole numbers from 0 on")
        self.kinds = kinds
        self.limits = {} if limits is None else dict(limits)
        self.things = {}
        self.marks = 0
        self.wishes = Wishes(kinds, [])
        self.wishing = 0
        self.last_done = {}

    def look(self):
        return Look(self.kinds, self.limits, self.things, self.wishes, self.wishing, self.last_done)

    def put(self, name, state):
        parts = parts_of(self.kinds, name)
        if not is_state(self.kinds.of(parts[0]), state):
            raise NoState("this is no state of the thing's kind")
        seen = self.look()
        if seen.thing(name) is not None:
            raise NoPlace("the thing is there already")
        if parts[1] is not None and seen.thing(parts[1]) is None:
            raise NoPlace("the thing's owner isn't there")
        if seen.is_full(parts[0]):
            raise NoPlace("the thing's kind is at its limit")
        self.keep(name, state)

    def tell(self, wishes):
        if not isinstance(wishes, Wishes):
            raise NoWish("a world is told Wishes")
        # Made anew: they may come of other kinds, and a row's fields may stand otherwise there.
        self.wishes = Wishes(self.kinds, wishes.rows)
        self.wishing = self.wishing + 1

    def do(self, deed):
        if not isinstance(deed, Deed):
            raise NoDeed("a world does deeds")
        seen = self.look()
        word = word_for(self.kinds, seen, deed)
        if word == "done":
            self.carry_out(deed, seen.state_of(deed.name))
        return word

    def carry_out(self, deed, state):
        kind = self.kinds.of(parts_of(self.kinds, deed.name)[0])
        after = deed.state_after(kind, state)
        if after is None:
            self.take_away(deed.name)
        else:
            self.keep(deed.name, after)
        self.last_done[deed.hand] = deed.number

    def keep(self, name, state):
        self.marks = self.marks + 1
        self.things[name] = (state, self.marks)

    def take_away(self, name):
        for other in list(self.things):
            # The point parts what is owned from things of longer numbers: box.1 doesn't own box.10.
            if other == name or other.startswith(f"{name}."):
                self.things.pop(other)
