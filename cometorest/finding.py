"""Finding: for kinds and hands the paper of the greatest numbers of steps, or a round, and the walk of a round."""

from cometorest.errors import NoRound
from cometorest.hands import check, deed_by
from cometorest.kinds import first_state, is_whole
from cometorest.names import name_of
from cometorest.situations import all_steps, is_situation, steps_from
from cometorest.wishes import Wishes
from cometorest.world import World


def greatest_numbers(onward):
    # Without those situations from which steps may go on for ever: they never come to be ready.
    ranks = {}
    ready = [here for here in onward if len(onward[here]) == 0]
    while ready:
        for here in ready:
            ranks[here] = max([ranks[step[2]] + 1 for step in onward[here]], default=0)
        ready = [here for here in onward if here not in ranks and all([step[2] in ranks for step in onward[here]])]
    return ranks


def round_from(onward, ranks, start):
    # From what has no rank a step leads to what has none, so the way meets itself at last.
    passed = []
    taken = []
    here = start
    while here not in passed:
        step = [one for one in onward[here] if one[2] not in ranks][0]
        passed.append(here)
        taken.append((step[0], step[1]))
        here = step[2]
    return ("round", here, taken[passed.index(here):])


def sought_in(onward):
    ranks = greatest_numbers(onward)
    endless = [here for here in onward if here not in ranks]
    if endless:
        return round_from(onward, ranks, endless[0])
    return ("paper", dict([(here, ranks[here]) for here in onward]))


def sought(kinds, hands):
    check(kinds, hands)
    return sought_in(all_steps(kinds, hands))


def situation_behind(kinds, hands, situation, step):
    # None where it is no step from there.
    if not isinstance(step, tuple) or len(step) != 2 or not isinstance(step[0], str) or not is_whole(step[1]):
        return None
    told = steps_from(kinds, hands, situation)
    behind = [one[2] for one in told if one[0] == step[0] and one[1] == step[1]]
    return behind[0] if behind else None


def is_round(kinds, hands, situation, steps):
    if not is_situation(kinds, situation) or not isinstance(steps, list) or len(steps) == 0:
        return False
    passed = []
    here = situation
    for step in steps:
        if here in passed:
            return False
        passed.append(here)
        here = situation_behind(kinds, hands, here, step)
        if here is None:
            return False
    return here == situation


def chain_of(kinds, kind):
    # The topmost owner first.
    chain = [kind]
    while kinds.of(chain[0]).owner is not None:
        chain = [kinds.of(chain[0]).owner] + chain
    return chain


def state_for(kinds, situation, kind):
    if kind == situation[0]:
        return situation[3]
    if kind == kinds.of(situation[0]).owner:
        return situation[2]
    return first_state(kinds.of(kind))


def wishes_for(kinds, situation):
    # The owners are wished as they are, so that no rule waits for their kinds.
    rows = [(owner, 1, []) for owner in chain_of(kinds, situation[0])[:-1]]
    if situation[1] is not None:
        pairs = list(zip(kinds.of(situation[0]).fields, situation[1]))
        rows.append((situation[0], 1, [(field[0], value) for field, value in pairs if value is not None]))
    return Wishes(kinds, rows)


def name_for(kinds, kind):
    name = None
    for above in chain_of(kinds, kind):
        name = name_of(kinds, above, name, 0)
    return name


def world_for(kinds, situation):
    world = World(kinds)
    for kind in chain_of(kinds, situation[0]):
        state = state_for(kinds, situation, kind)
        if state is not None:
            world.put(name_for(kinds, kind), state)
    world.tell(wishes_for(kinds, situation))
    return world


def walk(kinds, hands, situation, steps):
    check(kinds, hands)
    if not is_round(kinds, hands, situation, steps):
        raise NoRound("this is no round of these kinds and hands")
    name = name_for(kinds, situation[0])
    # A twin does the deeds here: the world that is told has still to do them.
    twin = world_for(kinds, situation)
    found = []
    for step in steps:
        hand = [one for one in hands if one.name == step[0]][0]
        found.append(deed_by(kinds, hand, hand.rules[step[1]], twin.look(), name))
        twin.do(found[-1])
    return (world_for(kinds, situation), name, found)
