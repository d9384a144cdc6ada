"""Texts: kinds, wishes, conditions, rules and hands written as words and read again."""

from cometorest.conditions import Always, Both, Condition, Either, Is, Meets, Not, Owner, Wanted
from cometorest.errors import NoKind, NoRule, NoText, NoWish, TooMany
from cometorest.hands import Hand
from cometorest.kinds import Kind, Kinds, is_name
from cometorest.names import is_written_number
from cometorest.rules import Rule, ToMake, ToSet, ToTake
from cometorest.wishes import Wishes

MOST_FIGURES = 12
NAMES_BEHIND = {"always": 0, "wanted": 0, "is": 2, "meets": 1, "owner": 2}
SIGNS = ("not", "(", "&", "|", ")")


def kind_row(kind):
    words = ["kind", kind.name]
    if kind.owner is not None:
        words.extend(["of", kind.owner])
    for field in kind.fields:
        words.extend([";", field[0]] + field[1])
    return " ".join(words)


def show_kinds(kinds):
    return "\n".join([kind_row(kinds.of(kind)) for kind in kinds.order()])


def wish_row(row):
    words = ["want", row[0], str(row[1])]
    for pair in row[2]:
        words.extend([";", pair[0], pair[1]])
    return " ".join(words)


def show_wishes(wishes):
    return "\n".join([wish_row(row) for row in wishes.rows])


def bracket_words(conditions, sign):
    words = ["("]
    for place, condition in enumerate(conditions):
        if place > 0:
            words.append(sign)
        words.extend(condition_words(condition))
    return words + [")"]


def condition_words(condition):
    if isinstance(condition, Always):
        return ["always"]
    if isinstance(condition, Wanted):
        return ["wanted"]
    if isinstance(condition, Is):
        return ["is", condition.field, condition.value]
    if isinstance(condition, Meets):
        return ["meets", condition.field]
    if isinstance(condition, Owner):
        return ["owner", condition.field, condition.value]
    if isinstance(condition, Not):
        return ["not"] + condition_words(condition.condition)
    return bracket_words(condition.conditions, "&" if isinstance(condition, Both) else "|")


def show_condition(condition):
    return " ".join(condition_words(condition))


def change_words(change):
    if isinstance(change, ToMake):
        return ["make"] + change.fields
    if isinstance(change, ToTake):
        return ["take"]
    if change.value is None:
        return ["wish", change.field]
    return ["set", change.field, change.value]


def show_rule(rule):
    words = ["on", rule.kind, ":"] + change_words(rule.change) + [":"] + condition_words(rule.condition)
    if rule.behind:
        words.extend([":"] + rule.behind)
    return " ".join(words)


def show_hands(hands):
    rows = []
    for hand in hands:
        rows.append(" ".join(["hand", hand.name]))
        rows.extend([show_rule(rule) for rule in hand.rules])
    return "\n".join(rows)


def number_in(word):
    # None where it is no written number.
    return int(word) if is_written_number(word, MOST_FIGURES) else None


def rows_in(text):
    if not isinstance(text, str):
        raise NoText(0)
    return text.split("\n")


def rows_or_none_in(text):
    # The text without signs is no row at all here, where kinds' text would have one that can't be read.
    rows = rows_in(text)
    return [] if rows == [""] else rows


def parts_at(words, sign):
    parts = [[]]
    for word in words:
        if word == sign:
            parts.append([])
        else:
            parts[-1].append(word)
    return parts


def kind_in(row):
    parts = parts_at(row.split(" "), ";")
    head = parts[0]
    if len(head) not in (2, 4) or head[0] != "kind" or head[2:3] not in ([], ["of"]):
        raise NoKind("a kind is written as kind, its name, and perhaps of and its owner")
    if not all([len(part) > 0 for part in parts[1:]]):
        raise NoKind("behind each sign ; stands a field")
    return Kind(head[1], [(part[0], part[1:]) for part in parts[1:]], head[3] if len(head) == 4 else None)


def read_kinds(text):
    found = []
    for line, row in enumerate(rows_in(text)):
        try:
            found.append(kind_in(row))
            order = Kinds(found).order()
        except (NoKind, TooMany):
            raise NoText(line) from None
        if order != [kind.name for kind in found]:
            raise NoText(line)
    return Kinds(found)


def wish_in(row):
    parts = parts_at(row.split(" "), ";")
    head = parts[0]
    if len(head) != 3 or head[0] != "want":
        raise NoWish("a row is written as want, a kind and a number")
    # Whether these are a number, fields and values is looked at when the wishes are made.
    return (head[1], number_in(head[2]), [tuple(part) for part in parts[1:]])


def read_wishes(kinds, text):
    found = []
    for line, row in enumerate(rows_or_none_in(text)):
        try:
            found.append(wish_in(row))
            Wishes(kinds, found)
        except (NoWish, TooMany):
            raise NoText(line) from None
    return Wishes(kinds, found)


def plain_condition(words):
    if words[0] == "always":
        return Always()
    if words[0] == "wanted":
        return Wanted()
    if words[0] == "is":
        return Is(words[1], words[2])
    if words[0] == "meets":
        return Meets(words[1])
    return Owner(words[1], words[2])


def pieces_in(words):
    # Plain conditions, and as texts the signs round them.
    pieces = []
    place = 0
    while place < len(words):
        word = words[place]
        if word not in SIGNS and word not in NAMES_BEHIND:
            raise NoRule("here stands no word of a condition")
        end = place + 1 + NAMES_BEHIND.get(word, 0)
        if end > len(words):
            raise NoRule("a condition lacks its field or value")
        pieces.append(word if word in SIGNS else plain_condition(words[place:end]))
        place = end
    return pieces


def in_brackets(pieces):
    signs = pieces[1::2]
    if len(pieces) % 2 == 1 and signs == ["&"] * len(signs):
        return Both(pieces[::2])
    if len(pieces) % 2 == 1 and signs == ["|"] * len(signs):
        return Either(pieces[::2])
    raise NoRule("in brackets stand conditions with signs of one sort between them")


def taken_to_bracket(pile):
    taken = []
    while pile and pile[-1] != "(":
        taken.append(pile.pop())
    if not pile:
        raise NoRule("a bracket ends that wasn't begun")
    pile.pop()
    return taken[::-1]


def condition_in(words):
    # By a pile, as a text may have more brackets than calls may stand in one another.
    pile = []
    for piece in pieces_in(words):
        made = in_brackets(taken_to_bracket(pile)) if piece == ")" else piece
        while isinstance(made, Condition) and pile[-1:] == ["not"]:
            pile.pop()
            made = Not(made)
        pile.append(made)
    if len(pile) != 1 or not isinstance(pile[0], Condition):
        raise NoRule("a text tells one condition")
    return pile[0]


def read_condition(text):
    if not isinstance(text, str):
        raise NoText(0)
    try:
        return condition_in(text.split(" "))
    except NoRule:
        raise NoText(0) from None


def change_in(words):
    if words[:1] == ["make"]:
        return ToMake(words[1:])
    if words[:1] == ["set"] and len(words) == 3:
        return ToSet(words[1], words[2])
    if words[:1] == ["wish"] and len(words) == 2:
        return ToSet(words[1], None)
    if words == ["take"]:
        return ToTake()
    raise NoRule("a deed is written as make, set, wish or take")


def rule_in(row):
    parts = parts_at(row.split(" "), ":")
    if len(parts) not in (3, 4) or len(parts[0]) != 2 or parts[0][0] != "on":
        raise NoRule("a rule is written as on, a kind, its deed, its condition and perhaps what it is behind")
    if parts[3:] == [[]]:
        raise NoRule("where a rule is behind nothing, no sign stands for it")
    behind = parts[3] if len(parts) == 4 else []
    return Rule(parts[0][1], change_in(parts[1]), condition_in(parts[2]), behind)


def read_rule(text):
    if not isinstance(text, str):
        raise NoText(0)
    try:
        return rule_in(text)
    except NoRule:
        raise NoText(0) from None


def hand_name_in(words, names):
    if len(words) != 2 or not is_name(words[1]) or words[1] in names:
        raise NoRule("a hand is written as hand and a name of its own")
    return words[1]


def read_hands(text):
    # The rules of each hand, by its name.
    found = {}
    rules = None
    for line, row in enumerate(rows_or_none_in(text)):
        words = row.split(" ")
        try:
            if words[0] == "hand":
                rules = []
                found[hand_name_in(words, list(found))] = rules
            elif rules is None:
                raise NoRule("a rule stands behind its hand")
            else:
                rules.append(rule_in(row))
        except NoRule:
            raise NoText(line) from None
    return [Hand(name, found[name]) for name in found]
