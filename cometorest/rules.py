"""Rules: what a hand may do to a thing of a kind, in which situations, and what comes of it."""

from cometorest.conditions import Condition
from cometorest.errors import NoRule
from cometorest.kinds import are_unlike_names, first_state, has_value, is_name, place_of, value_in, with_value


class Change:
    pass


class ToMake(Change):
    def __init__(self, fields):
        if not isinstance(fields, list) or not are_unlike_names(fields):
            raise NoRule("the fields of a making are a list of unlike names")
        self.fields = list(fields)

    def suits(self, kind):
        return all([place_of(kind, field) is not None for field in self.fields])

    def is_possible(self, kind, situation):
        if kind.owner is not None and situation[2] is None:
            return False
        return situation[1] is not None and situation[3] is None

    def outcome(self, kind, situation):
        state = first_state(kind)
        for field in kind.fields:
            wished = value_in(kind, situation[1], field[0])
            if field[0] in self.fields and wished is not None:
                state = with_value(kind, state, field[0], wished)
        return state


class ToSet(Change):
    def __init__(self, field, value):
        if not is_name(field):
            raise NoRule("the field of a setting is a name")
        if value is not None and not is_name(value):
            raise NoRule("the value of a setting is a name, or None")
        self.field = field
        self.value = value

    def suits(self, kind):
        if self.value is None:
            return place_of(kind, self.field) is not None
        return has_value(kind, self.field, self.value)

    def aim(self, kind, situation):
        # None where the wished value is to be set and there is none.
        if self.value is not None:
            return self.value
        return value_in(kind, situation[1], self.field)

    def is_possible(self, kind, situation):
        return situation[3] is not None and has_value(kind, self.field, self.aim(kind, situation))

    def outcome(self, kind, situation):
        return with_value(kind, situation[3], self.field, self.aim(kind, situation))


class ToTake(Change):
    def suits(self, kind):
        return True

    def is_possible(self, kind, situation):
        return situation[3] is not None

    def outcome(self, kind, situation):
        return None


def are_other_kinds(kind, things):
    return isinstance(things, list) and are_unlike_names(things) and kind not in things


class Rule:
    def __init__(self, kind, change, condition, behind):
        if not is_name(kind):
            raise NoRule("a rule has the name of a kind")
        if not isinstance(change, Change):
            raise NoRule("a rule has a deed: ToMake, ToSet or ToTake")
        if not isinstance(condition, Condition):
            raise NoRule("a rule has a condition")
        if not are_other_kinds(kind, behind):
            raise NoRule("a rule is behind a list of unlike names of other kinds")
        self.kind = kind
        self.change = change
        self.condition = condition
        self.behind = list(behind)


def can_be_used(kinds, rule, situation):
    if situation[0] != rule.kind or not rule.condition.holds(kinds, situation):
        return False
    return rule.change.is_possible(kinds.of(rule.kind), situation)


def state_behind(kinds, rule, situation):
    return rule.change.outcome(kinds.of(rule.kind), situation)
