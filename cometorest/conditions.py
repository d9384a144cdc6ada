"""Conditions: what holds of a situation, a tuple (kind's name, what is wished, owner's state, own state)."""

from cometorest.errors import NoRule
from cometorest.kinds import has_value, is_name, place_of, value_in

LEAST_CONDITIONS = 2


class Condition:
    pass


def check_names(things):
    if not all([is_name(thing) for thing in things]):
        raise NoRule("fields and values of a condition are names")


def check_conditions(things):
    if not isinstance(things, list) or len(things) < LEAST_CONDITIONS:
        raise NoRule("conditions are a list of two at least")
    if not all([isinstance(thing, Condition) for thing in things]):
        raise NoRule("in a list of conditions stand conditions alone")


class Always(Condition):
    def holds(self, kinds, situation):
        return True

    def suits(self, kinds, kind):
        return True


class Wanted(Condition):
    def holds(self, kinds, situation):
        return situation[1] is not None

    def suits(self, kinds, kind):
        return True


class Is(Condition):
    def __init__(self, field, value):
        check_names([field, value])
        self.field = field
        self.value = value

    def holds(self, kinds, situation):
        return value_in(kinds.of(situation[0]), situation[3], self.field) == self.value

    def suits(self, kinds, kind):
        return has_value(kind, self.field, self.value)


class Meets(Condition):
    def __init__(self, field):
        check_names([field])
        self.field = field

    def holds(self, kinds, situation):
        kind = kinds.of(situation[0])
        if situation[1] is None or situation[3] is None or place_of(kind, self.field) is None:
            return False
        wished = value_in(kind, situation[1], self.field)
        return wished is None or wished == value_in(kind, situation[3], self.field)

    def suits(self, kinds, kind):
        return place_of(kind, self.field) is not None


class Owner(Condition):
    def __init__(self, field, value):
        check_names([field, value])
        self.field = field
        self.value = value

    def holds(self, kinds, situation):
        owner = kinds.of(situation[0]).owner
        if owner is None:
            return False
        return value_in(kinds.of(owner), situation[2], self.field) == self.value

    def suits(self, kinds, kind):
        return kind.owner is not None and has_value(kinds.of(kind.owner), self.field, self.value)


class Not(Condition):
    def __init__(self, condition):
        if not isinstance(condition, Condition):
            raise NoRule("behind not stands a condition")
        self.condition = condition

    def holds(self, kinds, situation):
        return not self.condition.holds(kinds, situation)

    def suits(self, kinds, kind):
        return self.condition.suits(kinds, kind)


class Both(Condition):
    def __init__(self, conditions):
        check_conditions(conditions)
        self.conditions = list(conditions)

    def holds(self, kinds, situation):
        return all([condition.holds(kinds, situation) for condition in self.conditions])

    def suits(self, kinds, kind):
        return all([condition.suits(kinds, kind) for condition in self.conditions])


class Either(Condition):
    def __init__(self, conditions):
        check_conditions(conditions)
        self.conditions = list(conditions)

    def holds(self, kinds, situation):
        return any([condition.holds(kinds, situation) for condition in self.conditions])

    def suits(self, kinds, kind):
        return all([condition.suits(kinds, kind) for condition in self.conditions])
