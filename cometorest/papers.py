"""Papers: a rank for each situation that falls at each step, and the measure of a look by one."""

from cometorest.hands import check
from cometorest.kinds import is_whole_from
from cometorest.looks import names_known, situation_of
from cometorest.names import parts_of
from cometorest.situations import all_situations, is_situation, steps_from
from cometorest.wishes import count_of_each


def ranks_in(kinds, paper):
    # Without what is no situation: such a key may say that it is equal to one.
    ranks = {}
    for key, rank in paper.items():
        if is_situation(kinds, key):
            ranks[key] = rank
    return ranks


def wrong_step(kinds, hands, ranks):
    for situation in all_situations(kinds):
        for step in steps_from(kinds, hands, situation):
            if ranks[step[2]] >= ranks[situation]:
                return ("step", situation, step[0], step[1])
    return None


def wrong_with(kinds, hands, paper):
    check(kinds, hands)
    if not isinstance(paper, dict):
        return ("kind",)
    ranks = ranks_in(kinds, paper)
    for situation in all_situations(kinds):
        if situation not in ranks:
            return ("lacks", situation)
    for situation in all_situations(kinds):
        if not is_whole_from(0, ranks[situation]):
            return ("rank", situation)
    if len(ranks) < len(paper):
        return ("more",)
    return wrong_step(kinds, hands, ranks)


def highest_ranks(paper):
    found = {}
    for situation, rank in paper.items():
        found[situation[0]] = max(rank, found.get(situation[0], 0))
    return found


def most_of_each(kinds, look, kind):
    # How many a thing that is there owns of this kind, those not yet made included.
    many = {}
    for name in names_known(look):
        parts = parts_of(kinds, name)
        if parts[0] == kind and look.thing(parts[1]) is not None:
            many[parts[1]] = many.get(parts[1], 0) + 1
    return max([count_of_each(kind, look.wishes.rows)] + list(many.values()))


def units(kinds, paper, look):
    highest = highest_ranks(paper)
    found = {}
    wholes = {}
    # What is owned comes first: a unit outweighs all that may rise below.
    for kind in reversed(kinds.order()):
        below = sum([most_of_each(kinds, look, owned) * wholes[owned] for owned in kinds.owned(kind)])
        found[kind] = 1 + below
        wholes[kind] = found[kind] * highest[kind] + below
    return found


def measure(kinds, paper, look):
    unit_of = units(kinds, paper, look)
    known = [situation_of(kinds, look, name) for name in names_known(look)]
    return sum([unit_of[situation[0]] * paper[situation] for situation in known if situation is not None])
