"""Looks: how all stood in a world when it was looked at."""

from cometorest.names import parts_of
from cometorest.wishes import Wishes


class Look:
    def __init__(self, kinds, limits, things, wishes, wishing, last_done):
        self.kinds = kinds
        self.limits = dict(limits)
        self.things = dict(things)
        self.wishes = wishes
        self.wishing = wishing
        self.last_done = dict(last_done)

    def thing(self, name):
        # A text first: other things may be nothing that a dict can be asked for.
        return self.things.get(name) if isinstance(name, str) else None

    def state_of(self, name):
        there = self.thing(name)
        return None if there is None else there[0]

    def mark_of(self, name):
        there = self.thing(name)
        return None if there is None else there[1]

    def names(self):
        return sorted(self.things)

    def wanted(self):
        # The asker's own: whatever is done to its rows, the look's and the world's stay as they are.
        return Wishes(self.kinds, self.wishes.rows)

    def turn(self):
        return self.wishing

    def last(self, hand):
        return self.last_done.get(hand, 0) if isinstance(hand, str) else 0

    def is_full(self, kind):
        limit = self.limits.get(self.kinds.of(kind).name)
        if limit is None:
            return False
        return len([name for name in self.things if parts_of(self.kinds, name)[0] == kind]) >= limit


def names_known(look):
    # Of what is there, or wished, or both.
    return sorted(set(look.names()) | set(look.wishes.names()))


def situation_of(kinds, look, name):
    # None where the owner isn't there.
    parts = parts_of(kinds, name)
    owner_state = look.state_of(parts[1])
    if parts[1] is not None and owner_state is None:
        return None
    return (parts[0], look.wishes.wished(name), owner_state, look.state_of(name))
