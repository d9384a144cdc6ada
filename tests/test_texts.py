"""Points [2], [38] to [40]: kinds, wishes, conditions, rules and hands as texts, and what can't be read."""

import inspect
import random
import unittest

from cometorest.conditions import Always, Both, Either, Is, Meets, Not, Owner, Wanted
from cometorest.errors import NoText
from cometorest.hands import Hand
from cometorest.kinds import Kind, Kinds
from cometorest.rules import Rule, ToMake, ToSet, ToTake
from cometorest.texts import (
    read_condition, read_hands, read_kinds, read_rule, read_wishes, show_condition, show_hands, show_kinds, show_rule,
    show_wishes,
)
from cometorest.wishes import Wishes
from tests.strange import NO_TEXTS

KINDS = Kinds([
    Kind("lid", [("colour", ["red", "grey"]), ("shut", ["no", "yes"])], "box"),
    Kind("box", [("size", ["s", "m", "l"])]),
    Kind("bag", []),
    Kind("knob", [], "lid"),
])
KINDS_TEXT = "kind bag\nkind box ; size s m l\nkind lid of box ; colour red grey ; shut no yes\nkind knob of lid"


def same(thing):
    """Conditions, changes, rules, hands and kinds as tuples, to be held against one another."""
    if isinstance(thing, list):
        return [same(one) for one in thing]
    if hasattr(thing, "__dict__") and thing.__class__.__module__.startswith("cometorest."):
        return (thing.__class__.__name__,) + tuple(same(value) for value in vars(thing).values())
    return thing


def same_kinds(kinds):
    return [(name, same(kinds.of(name))) for name in kinds.order()]


class TextTest(unittest.TestCase):
    def refuses(self, read, text, line):
        with self.assertRaises(NoText, msg=text) as caught:
            read(text)
        self.assertIs(caught.exception.__class__, NoText)
        self.assertEqual(caught.exception.line, line, text)
        self.assertIs(caught.exception.line.__class__, int)

    def reads_no_blanks_more(self, read, text, lines=None):
        """At the beginning, amid, at the end of each row, and a line feed behind the last row."""
        rows = text.split("\n")
        for line, row in enumerate(rows):
            for place in [0, len(row)] + [place for place, sign in enumerate(row) if sign == " "]:
                wrong = row[:place] + " " + row[place:]
                self.refuses(read, "\n".join(rows[:line] + [wrong] + rows[line + 1:]), line if lines is None else 0)
        self.refuses(read, text + "\n", len(rows) if lines is None else 0)
        self.refuses(read, "\n" + text, 0)

    def is_just_what_is_written(self, read, show, texts, draw, words, own_line=True):
        """Drawn changes of right texts: what can be read is written the same, else its line is the first wrong one."""
        seen = [0, 0]
        for text in texts:
            for _ in range(60):
                wrong = changed(text, draw, words)
                try:
                    made = read(wrong)
                except NoText as refusal:
                    seen[0] += 1
                    if own_line:
                        self.is_the_first_line(read, wrong, refusal.line)
                    else:
                        self.assertEqual(refusal.line, 0)
                else:
                    seen[1] += 1
                    self.assertEqual(show(made), wrong)
        self.assertGreater(seen[0], 30)
        self.assertGreater(seen[1], 5)

    def is_the_first_line(self, read, text, line):
        rows = text.split("\n")
        self.assertLess(line, len(rows))
        if line > 0:
            read("\n".join(rows[:line]))
        ahead = "\n".join(rows[:line + 1])
        if ahead:
            self.refuses(read, ahead, line)


def changed(text, draw, words):
    """A text with a word or a row left out, twice, exchanged or put in."""
    parts = text.split("\n") if draw.random() < 0.3 else None
    sign = "\n" if parts is not None else " "
    parts = parts if parts is not None else text.split(" ")
    place = draw.randrange(len(parts))
    other = draw.randrange(len(parts))
    way = draw.randrange(5)
    if way == 0:
        parts.pop(place)
    elif way == 1:
        parts.insert(other, parts[place])
    elif way == 2:
        parts[place], parts[other] = parts[other], parts[place]
    elif way == 3 and sign == " ":
        parts[place] = draw.choice(words)
    elif sign == " ":
        parts.insert(place, draw.choice(words))
    return sign.join(parts)


class KindsAsText(TextTest):
    def test_shown(self):
        self.assertEqual(show_kinds(KINDS), KINDS_TEXT)
        self.assertEqual(show_kinds(kinds=Kinds([Kind("box", [])])), "kind box")
        self.assertEqual(show_kinds(Kinds([Kind("b", []), Kind("a", [], "b")])), "kind b\nkind a of b")

    def test_read_to_the_same(self):
        self.assertEqual(same_kinds(read_kinds(KINDS_TEXT)), same_kinds(KINDS))
        self.assertIsInstance(read_kinds(text=KINDS_TEXT), Kinds)
        read = read_kinds("kind lid ; a b ; c d e")
        self.assertEqual(same(read.of("lid")), ("Kind", "lid", [("a", ["b"]), ("c", ["d", "e"])], None))

    def test_called_like_the_words(self):
        kinds = Kinds([Kind("kind", [("of", ["kind", "of"]), ("kind", ["of"])]), Kind("of", [("of", ["of"])], "kind")])
        text = "kind kind ; of kind of ; kind of\nkind of of kind ; of of"
        self.assertEqual(show_kinds(kinds), text)
        self.assertEqual(same_kinds(read_kinds(text)), same_kinds(kinds))
        self.assertEqual(read_kinds("kind of").order(), ["of"])
        self.refuses(read_kinds, "kind of of", 0)
        self.refuses(read_kinds, "kind kind of kind", 0)

    def test_eight_states_and_nine(self):
        self.assertEqual(len(read_kinds("kind a ; f a b c d e f g h").of("a").fields[0][1]), 8)
        self.refuses(read_kinds, "kind a ; f a b c d e f g h i", 0)
        self.refuses(read_kinds, "kind a\nkind b ; f a b c ; g a b c", 1)

    def test_rows_that_can_not_be_read(self):
        for row in ("", " ", "kind", "box", "kin box", "Kind box", "kind Box", "kind box1", "kind ninechars",
                    "kind box of",
                    "kind box of bag of bag", "kind box bag", "kind box bag cup", "kind box , size s", "kind box ;",
                    "kind box ; size", "kind box ; size s ;", "kind box ; ; size s", "kind box ;; size s",
                    "kind box size s m", "kind box; size s m", "kind box ; size s s", "kind box ; size s ; size m",
                    "kind box ; size S", "kind box ; size s 1", "kind ; size s", "kind box of box",
                    "kind box of ; size s",
                    "kind box of bag ; ; a b", "kind box\tof", "want box 1", "kind box.0", "; kind box",
                    "kind kind box"):
            self.refuses(read_kinds, row, 0)
            self.refuses(read_kinds, "kind bag\n" + row, 1)
            self.refuses(read_kinds, "kind bag\n" + row + "\nkind cup", 1)
            self.refuses(read_kinds, "kind bag\nkind bird\n" + row + "\n", 2)

    def test_no_kinds(self):
        self.refuses(read_kinds, "", 0)
        self.refuses(read_kinds, "\n", 0)
        self.refuses(read_kinds, "\n" + KINDS_TEXT, 0)

    def test_a_line_feed_behind_the_last_row_and_blanks(self):
        self.refuses(read_kinds, KINDS_TEXT + "\n", 4)
        self.refuses(read_kinds, KINDS_TEXT.replace("\nkind lid", "\n\nkind lid"), 2)
        self.reads_no_blanks_more(read_kinds, KINDS_TEXT)

    def test_a_name_that_stands_ahead(self):
        self.refuses(read_kinds, "kind box\nkind box", 1)
        self.refuses(read_kinds, "kind a\nkind b\nkind a ; f x\nkind", 2)
        self.refuses(read_kinds, "kind a\nkind b of a\nkind c\nkind b of c", 3)

    def test_an_owner_that_is_not_ahead(self):
        self.refuses(read_kinds, "kind lid of box", 0)
        self.refuses(read_kinds, "kind lid of box\nkind box", 0)
        self.refuses(read_kinds, "kind bag\nkind lid of box\nkind box", 1)
        self.refuses(read_kinds, "kind a of b\nkind b of a", 0)
        self.refuses(read_kinds, "kind a\nkind b of c\nkind c of b", 1)

    def test_another_order(self):
        self.refuses(read_kinds, "kind b\nkind a", 1)
        self.refuses(read_kinds, "kind a\nkind c\nkind b\nkind", 2)
        # Behind its owner the kind a could have come ahead of d.
        self.refuses(read_kinds, "kind b\nkind d\nkind a of b", 2)
        self.assertEqual(read_kinds("kind b\nkind a of b\nkind d").order(), ["b", "a", "d"])
        self.assertEqual(read_kinds("kind c\nkind d of c\nkind e").order(), ["c", "d", "e"])
        # z is owned by c: ahead of c it could not come, so y stands rightly.
        self.assertEqual(read_kinds("kind c\nkind y\nkind z of c").order(), ["c", "y", "z"])
        self.refuses(read_kinds, "kind c\nkind y\nkind x of c", 2)

    def test_the_first_wrong_row_is_told(self):
        self.refuses(read_kinds, "kind a\nkind b ;\nkind a\nkind", 1)
        self.refuses(read_kinds, "kind a\nkind a\nkind b ;", 1)

    def test_what_is_no_text(self):
        for thing in NO_TEXTS + [KINDS, [KINDS_TEXT], KINDS_TEXT.encode()]:
            self.refuses(read_kinds, thing, 0)

    def test_by_drawn_changes(self):
        draw = random.Random(38)
        texts = [KINDS_TEXT, "kind a ; b c\nkind b of a ; a c d\nkind of\nkind p of of ; kind of kind"]
        self.is_just_what_is_written(read_kinds, show_kinds, texts * 5, draw,
                                     ["kind", "of", ";", "a", "box", "size", "q", "", "0", "\n", "A"])


WISHES = Wishes(KINDS, [("box", 2, [("size", "m")]), ("lid", 1, []), ("bag", 10, []), ("box", 1, []),
                        ("lid", 2, [("shut", "yes"), ("colour", "red")])])
WISHES_TEXT = "want box 2 ; size m\nwant lid 1\nwant bag 10\nwant box 1\nwant lid 2 ; shut yes ; colour red"


def read_these(text):
    return read_wishes(KINDS, text)


class WishesAsText(TextTest):
    def test_shown(self):
        self.assertEqual(show_wishes(WISHES), WISHES_TEXT)
        self.assertEqual(show_wishes(wishes=Wishes(KINDS, [])), "")

    def test_read_to_the_same(self):
        read = read_wishes(text=WISHES_TEXT, kinds=KINDS)
        self.assertIsInstance(read, Wishes)
        self.assertEqual(read.rows, WISHES.rows)
        self.assertEqual(read.names(), WISHES.names())
        self.assertEqual(read.wished("box.0.lid.1"), ("red", "yes"))
        self.assertEqual(read_these("").rows, [])
        self.assertEqual(read_these("want bag 60").rows, [("bag", 60, [])])

    def test_called_like_the_words(self):
        kinds = Kinds([Kind("want", [("want", ["want", "of"])])])
        wishes = Wishes(kinds, [("want", 3, [("want", "want")])])
        self.assertEqual(show_wishes(wishes), "want want 3 ; want want")
        self.assertEqual(read_wishes(kinds, "want want 3 ; want want").rows, wishes.rows)

    def test_rows_that_can_not_be_read(self):
        for row in ("", " ", "want", "want box", "want 1 box", "box 1", "wish box 1", "Want box 1", "want box one",
                    "want box 0", "want box 00", "want box 01", "want box 007", "want box -1", "want box +1",
                    "want box 61",
                    "want box 999999999999", "want box 0000000000001", "want box 1000000000000", "want box 1.0",
                    "want box 1 2", "want box 1 ;", "want box 1 ; size", "want box 1 ; size s m",
                    "want box 1 ; size xl",
                    "want box 1 ; colour red", "want box 1 ; size s ; size s", "want box 1 ; size s ; size m",
                    "want box 1 size s", "want box 1; size s", "want box 1 ; ; size s", "want box 1 ; size s ;",
                    "want cup 1", "want Box 1", "want box.0 1", "want bag 1 ; size s", "want lid of box 1",
                    "; want box 1", "want ; box 1", "kind box", "want box 1 : size s", "want box \u0661"):
            self.refuses(read_these, row if row else "\n", 0)
            self.refuses(read_these, "want bag 1\n" + row, 1)
            self.refuses(read_these, "want bag 1\n" + row + "\nwant bag", 1)
            self.refuses(read_these, "want bag 1\nwant lid 1\n" + row + "\nwant bag 60", 2)

    def test_line_feeds_and_blanks(self):
        self.refuses(read_these, WISHES_TEXT + "\n", 5)
        self.refuses(read_these, "\n", 0)
        self.refuses(read_these, " ", 0)
        self.reads_no_blanks_more(read_these, WISHES_TEXT)

    def test_too_many_wishes(self):
        self.refuses(read_these, "want bag 60\nwant bag 1", 1)
        self.refuses(read_these, "want bag 30\nwant box 30\nwant bag 1", 2)
        # Lids come of each box: the row that makes too many is told, be it the box's or the lid's.
        self.refuses(read_these, "want lid 30\nwant box 1\nwant box 1\nwant", 2)
        self.refuses(read_these, "want box 2\nwant lid 29\nwant lid 1\nwant bag 1", 2)
        self.assertEqual(len(read_these("want lid 29\nwant box 2").names()), 60)
        self.assertEqual(read_these("want lid 60\nwant knob 60").names(), [])

    def test_which_comes_first(self):
        self.refuses(read_these, "want bag 60\nwant bag 1\nwant", 1)
        self.refuses(read_these, "want bag 60\nwant\nwant bag 1", 1)

    def test_what_is_no_text(self):
        for thing in NO_TEXTS + [WISHES, [WISHES_TEXT], WISHES_TEXT.encode(), WISHES.rows]:
            self.refuses(read_these, thing, 0)

    def test_nothing_is_kept(self):
        read_these(WISHES_TEXT).rows.clear()
        self.assertEqual(read_these(WISHES_TEXT).rows, WISHES.rows)
        self.assertEqual(show_wishes(WISHES), WISHES_TEXT)

    def test_by_drawn_changes(self):
        self.is_just_what_is_written(read_these, show_wishes, [WISHES_TEXT, "want lid 30\nwant box 1"] * 5,
                                     random.Random(7), ["want", "bag", ";", "size", "s", "1", "2", "60", "0", "01", ""])


CONDITIONS = [
    (Always(), "always"),
    (Wanted(), "wanted"),
    (Is("shut", "yes"), "is shut yes"),
    (Meets("shut"), "meets shut"),
    (Owner("size", "m"), "owner size m"),
    (Not(Always()), "not always"),
    (Not(Not(Is("a", "b"))), "not not is a b"),
    (Both([Always(), Wanted()]), "( always & wanted )"),
    (Either([Always(), Wanted()]), "( always | wanted )"),
    (Both([Always(), Wanted(), Meets("a"), Always()]), "( always & wanted & meets a & always )"),
    (Not(Both([Not(Is("a", "b")), Owner("c", "d")])), "not ( not is a b & owner c d )"),
    (Either([Both([Always(), Wanted()]), Not(Either([Wanted(), Meets("f")])), Both([Is("a", "b"), Always()])]),
     "( ( always & wanted ) | not ( wanted | meets f ) | ( is a b & always ) )"),
    (Both([Both([Both([Always(), Always()]), Always()]), Either([Always(), Either([Always(), Wanted()])])]),
     "( ( ( always & always ) & always ) & ( always | ( always | wanted ) ) )"),
    (Is("is", "is"), "is is is"),
    (Is("not", "always"), "is not always"),
    (Meets("meets"), "meets meets"),
    (Owner("owner", "wanted"), "owner owner wanted"),
    (Both([Is("meets", "not"), Not(Meets("is"))]), "( is meets not & not meets is )"),
]


class ConditionsAsText(TextTest):
    def test_shown_and_read(self):
        for condition, text in CONDITIONS:
            self.assertEqual(show_condition(condition), text)
            self.assertEqual(same(read_condition(text)), same(condition), text)
        self.assertEqual(show_condition(condition=Always()), "always")
        self.assertIsInstance(read_condition(text="always"), Always)

    def test_forty_parts_and_more_and_deep_ones(self):
        wide = Both([Is("a", "b")] * 60)
        self.assertEqual(same(read_condition(show_condition(wide))), same(wide))
        deep = Always()
        for _ in range(15):
            deep = Either([Wanted(), Both([Not(deep), Is("a", "b")]), Always()])
        self.assertEqual(same(read_condition(show_condition(deep))), same(deep))

    def test_texts_that_can_not_be_read(self):
        for text in ("", " ", "x", "Always", "ALWAYS", "alway", "always always", "always wanted", "is", "is a",
                     "is a b c",
                     "is A b", "is a B", "is a 1", "meets", "meets a b", "meets A", "owner", "owner a", "owner a b c",
                     "not", "not not", "always not", "not always wanted", "(", ")", "( )", "( always )", "( always",
                     "always )", "( always & )", "( & always )", "( always wanted )", "( always & wanted",
                     "always & wanted )", "always & wanted", "always | wanted", "& always", "always &", "&", "|",
                     "( always & wanted | always )", "( always | wanted & always )", "( always & & wanted )",
                     "( always && wanted )", "( always and wanted )", "(always & wanted)", "( always &wanted )",
                     "( ( always & wanted )", "( always & wanted ) )", "( always & wanted ) always",
                     "( ( always ) & wanted )", "( ( always & wanted ) )", "( not & always )", "( always not wanted )",
                     "( always & not )", "not ( always )", "( always & wanted ) & always", ") always (",
                     "( always & ( wanted | always & always ) )", "is ( )", "is a &", "meets )", "( is a & always )",
                     "always\n", "\nalways", "always\nwanted", "( always\n& wanted )", "always : wanted",
                     "[ always & wanted ]",
                     "not is a", "nots always", "take", "on box : take : always", "is is", "not not not"):
            self.refuses(read_condition, text, 0)

    def test_blanks(self):
        for _, text in CONDITIONS:
            self.reads_no_blanks_more(read_condition, text, 0)

    def test_each_word_left_out_or_twice(self):
        for _, text in CONDITIONS:
            words = text.split(" ")
            for place in range(len(words)):
                for wrong in (words[:place] + words[place + 1:], words[:place] + [words[place]] + words[place:]):
                    try:
                        read = read_condition(" ".join(wrong))
                    except NoText as refusal:
                        self.assertEqual(refusal.line, 0)
                    else:
                        self.assertEqual(show_condition(read), " ".join(wrong))

    def test_a_great_many_brackets(self):
        for text in ("( " * 20000 + "always", "not " * 20000 + "x", "always" + " )" * 20000,
                     "( " * 20000 + "always" + " )" * 20000):
            self.refuses(read_condition, text, 0)

    def test_what_is_no_text(self):
        for thing in NO_TEXTS + [Always(), ["always"], b"always"]:
            self.refuses(read_condition, thing, 0)

    def test_by_drawn_changes(self):
        self.is_just_what_is_written(
            read_condition, show_condition, [text for _, text in CONDITIONS], random.Random(39),
            ["always", "wanted", "is", "meets", "owner", "not", "(", ")", "&", "|", "a", "", "\n", ":"], False)

    def test_drawn_conditions(self):
        draw = random.Random(16)

        def drawn(deep):
            way = draw.randrange(8 if deep else 5)
            if way >= 6:
                return draw.choice([Both, Either])([drawn(deep - 1) for _ in range(draw.choice([2, 2, 3]))])
            names = [draw.choice(["a", "is", "not", "owner", "meets", "always", "wanted",
                                  "abcdefgh"]) for _ in range(2)]
            return [Always(), Wanted(), Is(*names), Meets(names[0]), Owner(*names),
                    Not(drawn(deep - 1)) if deep else 0][way]
        for _ in range(200):
            condition = drawn(4)
            self.assertEqual(same(read_condition(show_condition(condition))), same(condition))


RULES = [
    (Rule("box", ToMake([]), Always(), []), "on box : make : always"),
    (Rule("lid", ToMake(["shut"]), Always(), []), "on lid : make shut : always"),
    (Rule("lid", ToMake(["shut", "colour"]), Wanted(), ["box"]), "on lid : make shut colour : wanted : box"),
    (Rule("lid", ToSet("shut", "yes"), Is("shut", "no"), ["bag", "box"]),
     "on lid : set shut yes : is shut no : bag box"),
    (Rule("lid", ToSet("shut", None), Not(Meets("shut")), []), "on lid : wish shut : not meets shut"),
    (Rule("box", ToTake(), Both([Not(Wanted()), Owner("a", "b")]), []), "on box : take : ( not wanted & owner a b )"),
    (Rule("on", ToMake(["make", "on", "take"]), Is("on", "take"), ["make"]),
     "on on : make make on take : is on take : make"),
    (Rule("take", ToSet("set", "set"), Always(), ["set"]), "on take : set set set : always : set"),
    (Rule("wish", ToSet("wish", None), Always(), ["on", "hand"]), "on wish : wish wish : always : on hand"),
]


class RulesAsText(TextTest):
    def test_shown_and_read(self):
        for rule, text in RULES:
            self.assertEqual(show_rule(rule), text)
            self.assertEqual(same(read_rule(text)), same(rule), text)
        self.assertEqual(show_rule(rule=RULES[0][0]), RULES[0][1])
        self.assertIsInstance(read_rule(text=RULES[0][1]), Rule)

    def test_texts_that_can_not_be_read(self):
        for text in ("", " ", "on", "on box", "on box :", "on box : take", "on box : take :", "on box : take : ",
                     "on box : take : always :", "on box : take : always : ", "on box : take : always : bag :",
                     "on box : take : always : bag : cup", "on box : take : always : bag bag",
                     "on box : take : always : box", "on box : take : always : bag box", "on box : take : always : Bag",
                     "on box : take : always bag", "on box take : always", "on box : take always",
                     "box : take : always",
                     "on : take : always", "on box bag : take : always", "On box : take : always",
                     "on Box : take : always",
                     "on box: take : always", "on box : take it : always", "on box : set : always",
                     "on box : set a : always",
                     "on box : set a b c : always", "on box : set a - : always", "on box : set a None : always",
                     "on box : wish : always", "on box : wish a b : always", "on box : make a a : always",
                     "on box : make A : always", "on box : made : always", "on box : : always", "on box : take : : bag",
                     "on box : always : take", "on box : take : always\n", "on box : take\n: always", "hand box",
                     "on box ; take ; always", "on box : take : ( always : bag )", "on box : TAKE : always",
                     "on box : take : always : bag,cup", "on box.0 : take : always"):
            self.refuses(read_rule, text, 0)

    def test_blanks(self):
        for _, text in RULES:
            self.reads_no_blanks_more(read_rule, text, 0)

    def test_what_is_no_text(self):
        for thing in NO_TEXTS + [RULES[0][0], [RULES[0][1]], RULES[0][1].encode()]:
            self.refuses(read_rule, thing, 0)

    def test_by_drawn_changes(self):
        self.is_just_what_is_written(
            read_rule, show_rule, [text for _, text in RULES] * 2, random.Random(17),
            ["on", ":", "make", "set", "wish", "take", "always", "not", "a", "box", "", "\n", "("], False)


HANDS = [Hand("anna", [rule for rule, _ in RULES[:3]]), Hand("idle", []), Hand("hand", [rule for rule, _ in RULES[6:]])]
HANDS_TEXT = "\n".join(["hand anna"] + [text for _, text in RULES[:3]] + ["hand idle", "hand hand"]
                       + [text for _, text in RULES[6:]])


class HandsAsText(TextTest):
    def test_shown(self):
        self.assertEqual(show_hands(HANDS), HANDS_TEXT)
        self.assertEqual(show_hands(hands=[]), "")
        self.assertEqual(show_hands([Hand("a", [])]), "hand a")
        self.assertEqual(show_hands([Hand("a", []), Hand("b", [RULES[0][0]])]),
                         "hand a\nhand b\non box : make : always")

    def test_read_to_the_same(self):
        read = read_hands(text=HANDS_TEXT)
        self.assertIs(read.__class__, list)
        self.assertEqual(same(read), same(HANDS))
        self.assertEqual(read_hands(""), [])
        self.assertEqual(same(read_hands("hand a\nhand b")), same([Hand("a", []), Hand("b", [])]))
        self.assertEqual(same(read_hands("hand b\nhand a")), same([Hand("b", []), Hand("a", [])]))

    def test_many_rules_and_the_same_rule_twice(self):
        many = [Hand("a", [RULES[0][0]] * 15)]
        self.assertEqual(same(read_hands(show_hands(many))), same(many))

    def test_rows_that_can_not_be_read(self):
        for row in ("", " ", "hand", "hand Anna", "hand b c", "hands b", "Hand b", "hand ninechars", "hand b :",
                    "hand 1",
                    "on", "on box : take", "on box : take : always :", "on box : make a a : always",
                    "box : take : always",
                    "on box : take : alway", "on box : take : always : box", "want box 1",
                    "on box : take : ( always )"):
            self.refuses(read_hands, row if row else "\n", 0)
            self.refuses(read_hands, "hand a\n" + row, 1)
            self.refuses(read_hands, "hand a\n" + row + "\nhand a", 1)
            self.refuses(read_hands, "hand a\non box : take : always\n" + row + "\n", 2)

    def test_a_rule_ahead_of_all_hands(self):
        self.refuses(read_hands, "on box : take : always", 0)
        self.refuses(read_hands, "on box : take : always\nhand a", 0)

    def test_a_hand_twice(self):
        self.refuses(read_hands, "hand a\nhand a", 1)
        self.refuses(read_hands, "hand a\non box : take : always\nhand b\nhand a\nhand", 3)

    def test_line_feeds_and_blanks(self):
        self.refuses(read_hands, HANDS_TEXT + "\n", len(HANDS_TEXT.split("\n")))
        self.refuses(read_hands, "\n", 0)
        self.refuses(read_hands, " ", 0)
        self.refuses(read_hands, "hand a\n\nhand b", 1)
        self.reads_no_blanks_more(read_hands, HANDS_TEXT)

    def test_what_is_no_text(self):
        for thing in NO_TEXTS + [HANDS, HANDS[0], [HANDS_TEXT], HANDS_TEXT.encode()]:
            self.refuses(read_hands, thing, 0)

    def test_nothing_is_kept_or_changed(self):
        read = read_hands(HANDS_TEXT)
        read.clear()
        self.assertEqual(len(read_hands(HANDS_TEXT)), 3)
        show_rule(HANDS[0].rules[2])
        self.assertEqual(HANDS[0].rules[2].behind, ["box"])
        self.assertEqual(HANDS[0].rules[2].change.fields, ["shut", "colour"])

    def test_by_drawn_changes(self):
        self.is_just_what_is_written(
            read_hands, show_hands, [HANDS_TEXT, "hand a\non b : take : always\nhand c"] * 6, random.Random(40),
            ["hand", "on", ":", "make", "take", "always", "a", "box", "", "\n", "hand\nhand", "b\nhand"])


class Interface(unittest.TestCase):
    def test_names_of_arguments(self):
        right = {show_kinds: ["kinds"], show_wishes: ["wishes"], show_condition: ["condition"], show_rule: ["rule"],
                 show_hands: ["hands"], read_kinds: ["text"], read_wishes: ["kinds", "text"], read_condition: ["text"],
                 read_rule: ["text"], read_hands: ["text"]}
        for asked, names in right.items():
            self.assertEqual(list(inspect.signature(asked).parameters), names)


if __name__ == "__main__":
    unittest.main()
