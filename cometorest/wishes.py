"""Wishes: which things there should be, with which values."""

from cometorest.errors import NoWish, TooMany
from cometorest.kinds import Kinds, are_unlike_names, has_value, is_name, is_whole
from cometorest.names import name_of, parts_of

MOST_MANY = 60
MOST_WISHED = 60


def is_pair_of(kind, thing):
    if not isinstance(thing, tuple) or len(thing) != 2:
        return False
    return is_name(thing[0]) and is_name(thing[1]) and has_value(kind, thing[0], thing[1])


def are_pairs_of(kind, things):
    if not isinstance(things, list) or not all([is_pair_of(kind, thing) for thing in things]):
        return False
    return are_unlike_names([thing[0] for thing in things])


def is_row(kinds, thing):
    if not isinstance(thing, tuple) or len(thing) != 3:
        return False
    if not is_name(thing[0]) or thing[0] not in kinds.order():
        return False
    if not is_whole(thing[1]) or not 1 <= thing[1] <= MOST_MANY:
        return False
    return are_pairs_of(kinds.of(thing[0]), thing[2])


def are_rows(kinds, things):
    return isinstance(things, list) and all([is_row(kinds, thing) for thing in things])


def count_of_each(kind, rows):
    return sum([row[1] for row in rows if row[0] == kind])


def count_wished(kinds, rows):
    # Counted, not built: what is refused may wish for a great many things.
    many = {}
    for kind in kinds.order():
        owner = kinds.of(kind).owner
        owners = 1 if owner is None else many[owner]
        many[kind] = owners * count_of_each(kind, rows)
    return sum(many.values())


def wished_of_each(kind, rows):
    # By their numbers, the same for each owner.
    found = []
    for row in rows:
        if row[0] == kind.name:
            values = dict(row[2])
            wished = tuple([values.get(field[0]) for field in kind.fields])
            found.extend([wished] * row[1])
    return found


def wished_by_name(kinds, rows):
    names = {}
    found = {}
    for kind in kinds.order():
        owner_kind = kinds.of(kind).owner
        owners = [None] if owner_kind is None else names[owner_kind]
        of_each = wished_of_each(kinds.of(kind), rows)
        names[kind] = []
        for owner in owners:
            for number, wished in enumerate(of_each):
                name = name_of(kinds, kind, owner, number)
                names[kind].append(name)
                found[name] = wished
    return found


class Wishes:
    def __init__(self, kinds, rows):
        if not isinstance(kinds, Kinds):
            raise NoWish("wishes are made of Kinds and rows")
        if not are_rows(kinds, rows):
            raise NoWish("wishes are a list of rows (kind, many, list of tuples (field, value)) of these kinds")
        if count_wished(kinds, rows) > MOST_WISHED:
            raise TooMany("at most sixty things are wished")
        self.kinds = kinds
        self.rows = [(row[0], row[1], list(row[2])) for row in rows]
        self.by_name = wished_by_name(kinds, rows)

    def wished(self, name):
        # Asked for its refusal of what is no name of a thing.
        parts_of(self.kinds, name)
        return self.by_name.get(name)

    def names(self):
        return sorted(self.by_name)


def fits(wished, state):
    if wished is None or state is None:
        return wished is None and state is None
    return all([value is None or value == there for value, there in zip(wished, state)])
