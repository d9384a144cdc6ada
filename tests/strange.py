"""Things of all kinds, to be refused, for several tests."""


class Alike:
    """Equal to anything, and nothing that a dict or set takes."""

    __hash__ = None

    def __eq__(self, other):
        return True


class AlikeKey(Alike):
    """Equal to anything, and a dict takes it."""

    def __hash__(self):
        return 7


NO_TEXTS = [None, True, False, 0, 1, -1, [], ["box"], (), ("box",), {}, {"box": 1}, object(), object, Alike()]
NO_NAMES = NO_TEXTS + ["", "ninechars", "abcdefghi", "Box", "boX", "box1", "1", " ", "box ", " box", "b x", "box.0",
                       "box\n", "b_x", "-"]
NO_LISTS = [None, True, False, 0, 1, "", "box", (), ("box",), {}, {"box": 1}, object(), Alike()]
NO_WHOLES = [None, True, False, "", "1", [], [1], (), (1,), {}, {1: 1}, object(), Alike()]


def no_names_but(*right):
    return [thing for thing in NO_NAMES if not any(thing is one for one in right)]
