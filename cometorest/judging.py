"""Judging: whether hands come to rest where all is as wished, and why something isn't as wished."""

from cometorest.finding import sought_in
from cometorest.hands import check
from cometorest.looks import names_known
from cometorest.names import parts_of
from cometorest.situations import all_steps, is_right
from cometorest.wishes import fits


def stuck_in(onward):
    return [here for here in onward if len(onward[here]) == 0 and not is_right(here)]


def stuck(kinds, hands):
    check(kinds, hands)
    return stuck_in(all_steps(kinds, hands))


def waits(kinds, hands):
    # A dict of each kind to those that it waits for.
    found = {}
    for kind in kinds.order():
        owner = kinds.of(kind).owner
        found[kind] = [] if owner is None else [owner]
    for hand in hands:
        for rule in hand.rules:
            found[rule.kind].extend(rule.behind)
    return found


def never_free(waiting):
    # Each of them waits for another one of them.
    left = []
    still = list(waiting)
    while len(left) != len(still):
        left = still
        still = [kind for kind in left if any([other in left for other in waiting[kind]])]
    return left


def ring(kinds, hands):
    check(kinds, hands)
    waiting = waits(kinds, hands)
    left = never_free(waiting)
    if len(left) == 0:
        return None
    passed = []
    here = left[0]
    while here not in passed:
        passed.append(here)
        here = [other for other in waiting[here] if other in left][0]
    return passed[passed.index(here):]


def judge(kinds, hands):
    check(kinds, hands)
    onward = all_steps(kinds, hands)
    told = sought_in(onward)
    if told[0] == "round":
        return told
    wrong = stuck_in(onward)
    if wrong:
        return ("stuck", wrong[0])
    names = ring(kinds, hands)
    if names is not None:
        return ("ring", names)
    return ("rests", told[1])


def word_of(kinds, look, name):
    parts = parts_of(kinds, name)
    if look.wishes.wished(name) is not None and parts[1] is not None and look.thing(parts[1]) is None:
        return "owner"
    if look.thing(name) is None and look.is_full(parts[0]):
        return "full"
    return "open"


def why(kinds, look):
    found = {}
    for name in names_known(look):
        if not fits(look.wishes.wished(name), look.state_of(name)):
            found[name] = word_of(kinds, look, name)
    return found
