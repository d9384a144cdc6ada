"""Deeds: what a hand sends to a world, with marks of what it looked at."""

from cometorest.errors import NoDeed
from cometorest.kinds import has_value, is_name, is_state, is_whole_from, with_value
from cometorest.names import has_form


def check_mark(mark):
    if not is_whole_from(1, mark):
        raise NoDeed("a mark is a whole number from 1 on")


def check_owner_mark(name, owner_mark):
    if name.count(".") > 1:
        check_mark(owner_mark)
    elif owner_mark is not None:
        raise NoDeed("of a thing without owner the owner's mark is None")


class Deed:
    def __init__(self, hand, number, wishing, name):
        if not is_name(hand):
            raise NoDeed("a deed has a hand's name")
        if not is_whole_from(1, number):
            raise NoDeed("a deed's number is a whole number from 1 on")
        if not is_whole_from(0, wishing):
            raise NoDeed("a deed's wishing is a whole number from 0 on")
        if not has_form(name):
            raise NoDeed("a deed has a thing's name")
        self.hand = hand
        self.number = number
        self.wishing = wishing
        self.name = name


class Make(Deed):
    def __init__(self, hand, number, wishing, name, owner_mark, state):
        Deed.__init__(self, hand, number, wishing, name)
        check_owner_mark(name, owner_mark)
        if not isinstance(state, tuple) or not all([is_name(value) for value in state]):
            raise NoDeed("the state of a making is a tuple of names")
        self.owner_mark = owner_mark
        self.state = state

    def parts(self):
        return (self.hand, self.number, self.wishing, self.name, self.owner_mark, self.state)

    def seen_mark(self):
        # It is made where nothing was seen.
        return None

    def suits_kind(self, kind):
        return is_state(kind, self.state)

    def state_after(self, kind, state):
        return self.state


class Set(Deed):
    def __init__(self, hand, number, wishing, name, mark, owner_mark, field, value):
        Deed.__init__(self, hand, number, wishing, name)
        check_mark(mark)
        check_owner_mark(name, owner_mark)
        if not is_name(field) or not is_name(value):
            raise NoDeed("field and value of a setting are names")
        self.mark = mark
        self.owner_mark = owner_mark
        self.field = field
        self.value = value

    def parts(self):
        ahead = (self.hand, self.number, self.wishing, self.name, self.mark, self.owner_mark)
        return ahead + (self.field, self.value)

    def seen_mark(self):
        return self.mark

    def suits_kind(self, kind):
        return has_value(kind, self.field, self.value)

    def state_after(self, kind, state):
        return with_value(kind, state, self.field, self.value)


class Take(Deed):
    def __init__(self, hand, number, wishing, name, mark, owner_mark):
        Deed.__init__(self, hand, number, wishing, name)
        check_mark(mark)
        check_owner_mark(name, owner_mark)
        self.mark = mark
        self.owner_mark = owner_mark

    def parts(self):
        return (self.hand, self.number, self.wishing, self.name, self.mark, self.owner_mark)

    def seen_mark(self):
        return self.mark

    def suits_kind(self, kind):
        return True

    def state_after(self, kind, state):
        return None
