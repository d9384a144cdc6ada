"""Hands: lists of rules under a name, what suits kinds, and the deeds that a hand tells by a look."""

from cometorest.deeds import Make, Set, Take
from cometorest.errors import NoRule
from cometorest.kinds import are_unlike_names, is_name, value_in
from cometorest.looks import names_known, situation_of
from cometorest.names import parts_of
from cometorest.rules import Rule, ToMake, ToTake, can_be_used, state_behind
from cometorest.wishes import fits


class Hand:
    def __init__(self, name, rules):
        if not is_name(name):
            raise NoRule("a hand has a name")
        if not isinstance(rules, list) or not all([isinstance(rule, Rule) for rule in rules]):
            raise NoRule("a hand has a list of rules")
        self.name = name
        self.rules = list(rules)


def rule_suits(kinds, rule):
    if not all([kind in kinds.order() for kind in [rule.kind] + rule.behind]):
        return False
    kind = kinds.of(rule.kind)
    return rule.change.suits(kind) and rule.condition.suits(kinds, kind)


def check(kinds, hands):
    if not isinstance(hands, list) or not all([isinstance(hand, Hand) for hand in hands]):
        raise NoRule("hands are a list of hands")
    if not are_unlike_names([hand.name for hand in hands]):
        raise NoRule("hands have unlike names")
    for hand in hands:
        if not all([rule_suits(kinds, rule) for rule in hand.rules]):
            raise NoRule("a hand's rules name what these kinds haven't")


def settled_kinds(kinds, look):
    unsettled = [
        parts_of(kinds, name)[0]
        for name in names_known(look) if not fits(look.wishes.wished(name), look.state_of(name))
    ]
    return [kind for kind in kinds.order() if kind not in unsettled]


def deed_by(kinds, hand, rule, look, name):
    situation = situation_of(kinds, look, name)
    state = state_behind(kinds, rule, situation)
    number = look.last(hand.name) + 1
    owner_mark = look.mark_of(parts_of(kinds, name)[1])
    if isinstance(rule.change, ToMake):
        return Make(hand.name, number, look.turn(), name, owner_mark, state)
    if isinstance(rule.change, ToTake):
        return Take(hand.name, number, look.turn(), name, look.mark_of(name), owner_mark)
    field = rule.change.field
    value = value_in(kinds.of(rule.kind), state, field)
    return Set(hand.name, number, look.turn(), name, look.mark_of(name), owner_mark, field, value)


def is_told(kinds, rule, look, settled, situation):
    if not can_be_used(kinds, rule, situation) or not all([kind in settled for kind in rule.behind]):
        return False
    return not isinstance(rule.change, ToMake) or not look.is_full(rule.kind)


def deeds(kinds, hand, look):
    check(kinds, [hand])
    settled = settled_kinds(kinds, look)
    found = []
    for name in names_known(look):
        situation = situation_of(kinds, look, name)
        if situation is not None:
            rules = [rule for rule in hand.rules if is_told(kinds, rule, look, settled, situation)]
            found.extend([deed_by(kinds, hand, rule, look, name) for rule in rules])
    return found


def deed(kinds, hand, look):
    told = deeds(kinds, hand, look)
    return told[0] if told else None
