"""Names, whole numbers, kinds of things and their states."""

from cometorest.errors import NoKind, NoName, TooMany

LETTERS = "abcdefghijklmnopqrstuvwxyz"
MOST_LETTERS = 8
MOST_STATES = 8


def is_name(thing):
    if not isinstance(thing, str):
        return False
    return 1 <= len(thing) <= MOST_LETTERS and all([sign in LETTERS for sign in thing])


def is_whole(thing):
    # Python takes True and False for ints.
    return isinstance(thing, int) and not isinstance(thing, bool)


def is_whole_from(least, thing):
    return is_whole(thing) and thing >= least


def are_unlike_names(things):
    # Only names may reach the set: it takes no lists and dicts.
    return all([is_name(thing) for thing in things]) and len(set(things)) == len(things)


def is_pair_with_values(thing):
    if not isinstance(thing, tuple) or len(thing) != 2:
        return False
    values = thing[1]
    return isinstance(values, list) and len(values) > 0 and are_unlike_names(values)


def are_fields(things):
    if not isinstance(things, list) or not all([is_pair_with_values(thing) for thing in things]):
        return False
    return are_unlike_names([thing[0] for thing in things])


def count_states(fields):
    # Counted, not built: what is refused may have a great many states.
    many = 1
    for field in fields:
        many = many * len(field[1])
    return many


class Kind:
    def __init__(self, name, fields, owner=None):
        if not is_name(name):
            raise NoKind("a kind's name is one to eight small letters")
        if not are_fields(fields):
            raise NoKind("fields are a list of tuples (name, list of values), all unlike names")
        if owner is not None and (not is_name(owner) or owner == name):
            raise NoKind("an owner is the name of another kind, or None")
        if count_states(fields) > MOST_STATES:
            raise TooMany("a kind has eight states at most")
        self.name = name
        self.fields = [(field[0], list(field[1])) for field in fields]
        self.owner = owner


def all_picks(lists):
    # Tuples of one thing of each list, by the first list first.
    found = [()]
    for things in lists:
        longer = []
        for ahead in found:
            longer.extend([ahead + (thing,) for thing in things])
        found = longer
    return found


def states(kind):
    return all_picks([field[1] for field in kind.fields])


def first_state(kind):
    return tuple([field[1][0] for field in kind.fields])


def is_state(kind, thing):
    # Names alone are held against states: other things may say that they are equal to anything.
    return isinstance(thing, tuple) and all([is_name(value) for value in thing]) and thing in states(kind)


def place_of(kind, field):
    # None where the kind hasn't the field.
    fields = [pair[0] for pair in kind.fields]
    return fields.index(field) if field in fields else None


def has_value(kind, field, value):
    place = place_of(kind, field)
    return place is not None and value in kind.fields[place][1]


def value_in(kind, state, field):
    # Also of what is wished: None where there is no state, no such field, or nothing is cared for.
    place = place_of(kind, field)
    if state is None or place is None:
        return None
    return state[place]


def with_value(kind, state, field, value):
    place = place_of(kind, field)
    return state[:place] + (value,) + state[place + 1:]


def are_kinds(things):
    if not isinstance(things, list) or len(things) == 0:
        return False
    if not all([isinstance(thing, Kind) for thing in things]):
        return False
    return are_unlike_names([kind.name for kind in things])


def placed_by_owners(kinds):
    # Never ready, so left out: what has a strange owner, a ring of owners, and all that these own.
    placed = {}
    ready = [kind for kind in kinds if kind.owner is None]
    while ready:
        first = min(ready, key=lambda kind: kind.name)
        placed[first.name] = first
        ready = [kind for kind in kinds if kind.name not in placed and (kind.owner is None or kind.owner in placed)]
    return placed


class Kinds:
    def __init__(self, kinds):
        if not are_kinds(kinds):
            raise NoKind("kinds are a list of kinds, one at least, of unlike names")
        placed = placed_by_owners(kinds)
        if len(placed) < len(kinds):
            raise NoKind("owners are among the kinds, and none owns itself by way of others")
        self.by_name = placed

    def order(self):
        return list(self.by_name)

    def of(self, name):
        # A name first: what is none may be nothing that a dict can be asked for.
        if not is_name(name) or name not in self.by_name:
            raise NoName("no kind is called so")
        return self.by_name[name]

    def owned(self, name):
        owner = self.of(name).name
        return sorted([kind.name for kind in self.by_name.values() if kind.owner == owner])
