"""Situations: tuples (kind's name, what is wished, owner's state, own state), and the steps that hands take in them."""

from cometorest.errors import NoSituation
from cometorest.hands import check
from cometorest.kinds import all_picks, is_name, is_state, states
from cometorest.rules import can_be_used, state_behind
from cometorest.wishes import fits


def all_wished(kind):
    return [None] + all_picks([[None] + field[1] for field in kind.fields])


def owner_states(kinds, kind):
    return [None] if kind.owner is None else states(kinds.of(kind.owner))


def situations(kinds, kind):
    of_kind = kinds.of(kind)
    own_states = [None] + states(of_kind)
    found = []
    for wished in all_wished(of_kind):
        for owner_state in owner_states(kinds, of_kind):
            found.extend([(of_kind.name, wished, owner_state, state) for state in own_states])
    return found


def all_situations(kinds):
    found = []
    for kind in kinds.order():
        found.extend(situations(kinds, kind))
    return found


def is_wished_of(kind, thing):
    if thing is None:
        return True
    if not isinstance(thing, tuple) or len(thing) != len(kind.fields):
        return False
    pairs = list(zip(thing, kind.fields))
    return all([value is None or (is_name(value) and value in field[1]) for value, field in pairs])


def is_owner_state(kinds, kind, thing):
    if kind.owner is None:
        return thing is None
    return is_state(kinds.of(kind.owner), thing)


def is_situation(kinds, thing):
    # Part by part: other things than names and None may say that they are equal to anything.
    if not isinstance(thing, tuple) or len(thing) != 4:
        return False
    if not is_name(thing[0]) or thing[0] not in kinds.order():
        return False
    kind = kinds.of(thing[0])
    if not is_wished_of(kind, thing[1]) or not is_owner_state(kinds, kind, thing[2]):
        return False
    return thing[3] is None or is_state(kind, thing[3])


def steps_from(kinds, hands, situation):
    found = []
    for hand in hands:
        for place, rule in enumerate(hand.rules):
            if can_be_used(kinds, rule, situation):
                behind = situation[:3] + (state_behind(kinds, rule, situation),)
                found.append((hand.name, place, behind))
    return found


def all_steps(kinds, hands):
    # A dict of each situation, kinds in their order, to the steps from it.
    found = {}
    for situation in all_situations(kinds):
        found[situation] = steps_from(kinds, hands, situation)
    return found


def steps(kinds, hands, situation):
    check(kinds, hands)
    if not is_situation(kinds, situation):
        raise NoSituation("this is no situation of these kinds")
    return steps_from(kinds, hands, situation)


def is_right(situation):
    return fits(situation[1], situation[3])
