"""Points [2], [41], [42]: the desk, its rows, what it answers, and what it refuses."""

import inspect
import itertools
import unittest

from cometorest.desk import Desk
from cometorest.errors import NoLimit, NoName, NoPlace, NoRow, NoRule, NoState, NoStep, NoText, RestError
from tests.strange import NO_TEXTS

KINDS = "kinds\nkind bag\nkind box ; size s m ; ink red blue\nkind lid of box ; shut no yes"
TIDY = """hands
hand anna
on bag : make : always
on bag : take : not wanted
on box : make size : always
on box : take : not wanted
on lid : make : always : box
on lid : take : not wanted
hand otto
on box : wish size : not meets size
on box : wish ink : not meets ink
on lid : wish shut : not meets shut"""
TURN = "hands\nhand turn\non lid : set shut yes : is shut no\non lid : set shut no : is shut yes"
WISH = "wish\nwant box 2 ; size m\nwant lid 1 ; shut yes"
NUMBERS = ["", "-", "-1", "+1", "00", "01", "007", "1.0", "one", "1234567890123", "0000000000000", "x", "1\n", "\n1"]


def told(*rows):
    desk = Desk()
    for row in rows:
        desk.say(row)
    return desk


def all_of(desk):
    """All that the desk can be asked without a change."""
    answers = []
    for row in ("world", "why", "measure", "judge", "come 999999999999"):
        try:
            answers.append(desk.say(row))
        except RestError as refusal:
            answers.append(refusal.__class__)
    return answers


class DeskTest(unittest.TestCase):
    def says(self, desk, *pairs):
        for row, answer in pairs:
            said = desk.say(row)
            self.assertEqual(said, answer, row)
            self.assertIs(said.__class__, str)

    def refuses(self, desk, row, error, line=None):
        before = all_of(desk)
        with self.assertRaises(error, msg=repr(row)) as caught:
            desk.say(row)
        self.assertIs(caught.exception.__class__, error, repr(row))
        if line is not None:
            self.assertEqual(caught.exception.line, line)
        self.assertEqual(all_of(desk), before, repr(row))


class Kinds(DeskTest):
    def test_kinds_begin_anew(self):
        desk = Desk()
        self.says(desk, (KINDS, "ok"), ("world", ""), ("why", ""), ("judge", "stuck bag"), ("measure", "0"))
        for row in (TIDY, "limit bag 1", "put bag.0", "look anna 0"):
            desk.say(row)
        self.says(desk, ("world", "bag.0 1"), ("judge", "rests"), (KINDS, "ok"), ("world", ""), ("come 0", "none"),
                  ("judge", "stuck bag"), ("put bag.0", "ok"), ("put bag.1", "ok"), ("world", "bag.0 1\nbag.1 2"))
        self.refuses(desk, "look anna 0", NoStep)
        desk.say(WISH)
        self.says(desk, ("kinds\nkind cup", "ok"), ("why", ""), ("limit cup 3", "ok"), ("put cup.0", "ok"))
        self.refuses(desk, "put bag.0", NoName)

    def test_texts_that_can_not_be_read(self):
        for desk in (Desk(), told(KINDS, TIDY, WISH)):
            for text, line in (("", 0), ("kind", 0), ("\n", 0), ("kind b\nkind a", 1), ("kind a\n", 1), (" kind a", 0),
                               ("kind a\nkind b of c", 1), ("kind a ; f a b c d e f g h i", 0), ("want a 1", 0)):
                self.refuses(desk, "kinds\n" + text, NoText, line)

    def test_not_written_as_told(self):
        for desk in (Desk(), told(KINDS)):
            for row in ("kinds", "kinds ", " kinds\nkind a", "kinds \nkind a", "kinds kind a", "Kinds\nkind a",
                        "kind\nkind a",
                        "kinds a\nkind a", "\nkinds\nkind a", "kindskind a", "kinds\tkind a"):
                self.refuses(desk, row, NoRow)


class NoKindsYet(DeskTest):
    ROWS = ["limit bag 1", "put bag.0", TIDY, "hands\n", WISH, "wish\n", "look anna 0", "come 0", "twice 0", "lost 0",
            "settle 0", "world", "why", "measure", "judge"]

    def test_all_but_kinds_are_refused(self):
        desk = Desk()
        for row in self.ROWS:
            self.refuses(desk, row, NoRow)
        # Ahead of what can't be read, and of what the stages refuse.
        for row in ("hands\nx", "wish\nx", "limit ? 1", "put ?", "look ? 0"):
            self.refuses(desk, row, NoRow)
        with self.assertRaises(NoText):
            desk.say("kinds\n")
        for row in self.ROWS:
            self.refuses(desk, row, NoRow)
        desk.say(KINDS)
        self.says(desk, ("world", ""))


class Limits(DeskTest):
    def test_limits(self):
        desk = told(KINDS, TIDY, "limit bag 2")
        self.says(desk, ("put bag.0", "ok"), ("put bag.1", "ok"))
        self.refuses(desk, "put bag.2", NoPlace)
        self.refuses(desk, "limit bag 3", NoRow)
        self.refuses(desk, "limit box 3", NoRow)

    def test_several_and_the_same_again(self):
        desk = told(KINDS, TIDY)
        self.says(desk, ("limit bag 0", "ok"), ("limit box 1", "ok"), ("limit bag 1", "ok"), ("put bag.0", "ok"),
                  ("put box.0 s red", "ok"))
        self.refuses(desk, "put bag.1", NoPlace)
        self.refuses(desk, "put box.1 s red", NoPlace)
        self.says(desk, ("put box.0.lid.0 no", "ok"), ("put box.0.lid.1 no", "ok"))

    def test_the_hands_stay_and_a_new_world_begins(self):
        desk = told(KINDS, TIDY, "put bag.0", "look anna 0", "look anna 0", "come 0")
        self.says(desk, ("world", ""), ("limit bag 1", "ok"), ("come 0", "none"), ("put bag.5", "ok"),
                  ("world", "bag.5 1"),
                  ("look anna 0", "take anna 1 0 bag.5 1 -"), ("come 0", "done"), ("world", ""))
        desk = told(KINDS, "limit bag 0", TIDY, "wish\nwant bag 1")
        self.says(desk, ("why", "bag.0 full"), ("settle 0", "yes"))

    def test_behind_wishes(self):
        for wish in ("wish\n", WISH):
            desk = told(KINDS, wish)
            self.refuses(desk, "limit bag 1", NoRow)
            # NoRow comes ahead of the stage's refusal.
            self.refuses(desk, "limit cup 1", NoRow)
        self.refuses(told(KINDS, "put bag.0"), "limit cup 1", NoRow)

    def test_strange_kinds(self):
        desk = told(KINDS, TIDY)
        for kind in ("cup", "Bag", "bag.0", "?", "-", "1", "bagg", "limit", "a\tb"):
            self.refuses(desk, f"limit {kind} 1", NoLimit)

    def test_not_written_as_told(self):
        desk = told(KINDS)
        for number in NUMBERS:
            self.refuses(desk, f"limit bag {number}", NoRow)
            self.refuses(desk, f"limit cup {number}", NoRow)
        for row in ("limit", "limit bag", "limit 1", "limit bag 1 1", "limit bag box 1", "limit  bag 1", "limit bag  1",
                    "limit bag 1 ", " limit bag 1", "Limit bag 1", "limits bag 1", "limit bag 1\n", "limit\nbag 1"):
            self.refuses(desk, row, NoRow)
        self.says(desk, ("limit bag 999999999999", "ok"), ("limit bag 0", "ok"))


class Put(DeskTest):
    def test_things(self):
        desk = told(KINDS)
        self.says(desk, ("put bag.0", "ok"), ("put box.3 m blue", "ok"), ("put box.3.lid.12 yes", "ok"),
                  ("world", "bag.0 1\nbox.3 2 m blue\nbox.3.lid.12 3 yes"))

    def test_refused_as_the_stages_do(self):
        desk = told(KINDS, "limit bag 1", "put box.0 s red", "put bag.0")
        for row, error in (("put cup.0", NoName), ("put bag", NoName), ("put bag.00", NoName), ("put ?", NoName),
                           ("put lid.0 no", NoName), ("put box.0.lid no", NoName), ("put box.0 x", NoState),
                           ("put bag.0 x", NoState), ("put box.1", NoState), ("put box.1 s", NoState),
                           ("put box.1 red s", NoState), ("put box.1 s red s", NoState), ("put box.1 s ?", NoState),
                           ("put box.0 s red", NoPlace), ("put box.7.lid.0 no", NoPlace), ("put bag.1", NoPlace)):
            self.refuses(desk, row, error)

    def test_behind_wishes(self):
        for wish in ("wish\n", WISH):
            desk = told(KINDS, TIDY, "put bag.0", wish)
            for row in ("put bag.1", "put bag.0", "put cup.0", "put bag.1 x"):
                self.refuses(desk, row, NoRow)

    def test_a_new_run_with_the_same_hands(self):
        desk = told(KINDS, TIDY, "put bag.0", "look anna 0", "look anna 0")
        self.says(desk, ("come 0", "done"), ("put bag.1", "ok"), ("come 0", "none"), ("world", "bag.1 2"),
                  ("look anna 1", "take anna 2 0 bag.1 2 -"))

    def test_a_refused_one_keeps_the_run(self):
        desk = told(KINDS, TIDY, "put bag.0", "look anna 0")
        self.refuses(desk, "put bag.0", NoPlace)
        self.says(desk, ("come 0", "done"))

    def test_not_written_as_told(self):
        desk = told(KINDS)
        for row in ("put", "put ", "put  bag.0", "put bag.0 ", " put bag.0", "Put bag.0", "put\nbag.0", "put bag.0\n",
                    "put box.0 s  red", "puts bag.0", "put box.0\ns red"):
            self.refuses(desk, row, NoRow)


class Hands(DeskTest):
    def test_a_new_run_of_the_world_as_it_stands(self):
        desk = told(KINDS, "put bag.0", "put bag.1", TIDY, "look anna 0", "come 0", "look anna 0")
        self.says(desk, ("world", "bag.1 2"), (TIDY, "ok"), ("come 0", "none"), ("world", "bag.1 2"),
                  ("look anna 1", "take anna 2 0 bag.1 2 -"), ("hands\n", "ok"), ("come 0", "none"))
        self.refuses(desk, "look anna 0", NoStep)

    def test_wishes_and_limits_stay(self):
        desk = told(KINDS, "limit bag 0", "wish\nwant bag 1", TIDY)
        self.says(desk, ("why", "bag.0 full"), ("look anna 0", "none"))
        self.refuses(desk, "put box.0 s red", NoRow)

    def test_several_times(self):
        desk = told(KINDS, TIDY)
        self.says(desk, ("judge", "rests"), (TURN, "ok"), ("judge", "round lid turn 0 turn 1"), (TIDY, "ok"),
                  ("judge", "rests"), ("hands\n", "ok"), ("judge", "stuck bag"))

    def test_texts_that_can_not_be_read(self):
        desk = told(KINDS, TIDY, "put bag.0", "look anna 0")
        for text, line in (("\n", 0), (" ", 0), ("hand", 0), ("on bag : take : always", 0), ("hand a\nhand a", 1),
                           ("hand a\non bag : take", 1), ("hand a\n", 1), ("hand a\non cup : take : always\nx", 2)):
            self.refuses(desk, "hands\n" + text, NoText, line)
        self.says(desk, ("come 0", "done"))

    def test_hands_that_do_not_suit(self):
        desk = told(KINDS, TIDY, "put bag.0", "look anna 0")
        for text in ("hand a\non cup : take : always", "hand a\non bag : take : always : cup",
                     "hand a\non bag : make f : always",
                     "hand a\non box : set size l : always", "hand a\non box : take : owner size s"):
            self.refuses(desk, "hands\n" + text, NoRule)
        self.says(desk, ("come 0", "done"), ("judge", "rests"))

    def test_not_written_as_told(self):
        desk = told(KINDS, TIDY)
        for row in ("hands", "hands ", "hands \nhand a", " hands\nhand a", "hand\nhand a", "hands a\n", "hands hand a",
                    "Hands\n"):
            self.refuses(desk, row, NoRow)


class Wish(DeskTest):
    def test_told_several_times(self):
        desk = told(KINDS, TIDY)
        self.says(desk, ("wish\nwant bag 1", "ok"), ("look anna 0", "make anna 1 1 bag.0 -"), (WISH, "ok"),
                  ("come 0", "wish"), ("look anna 0", "make anna 1 2 box.0 - m red"), ("wish\n", "ok"), ("why", ""),
                  ("come 0", "wish"), ("look anna 0", "none"), ("look anna 1", "make anna 1 2 box.0 - m red"),
                  ("look anna 2", "make anna 1 1 bag.0 -"), ("look anna 3", "none"))

    def test_texts_that_can_not_be_read(self):
        desk = told(KINDS, TIDY)
        for text, line in (("\n", 0), (" ", 0), ("want", 0), ("want cup 1", 0), ("want bag 0", 0), ("want bag 01", 0),
                           ("want bag 1\n", 1), ("want bag 60\nwant bag 1\nx", 1), ("want bag 1 ; f x", 0)):
            self.refuses(desk, "wish\n" + text, NoText, line)
        # No wishes were told by these.
        self.says(desk, ("limit bag 1", "ok"), ("put bag.0", "ok"))

    def test_not_written_as_told(self):
        desk = told(KINDS, TIDY)
        for row in ("wish", "wish ", "wish \n", " wish\n", "wishes\n", "wish want bag 1", "want\nwant bag 1", "Wish\n"):
            self.refuses(desk, row, NoRow)
        self.says(desk, ("put bag.0", "ok"))


class Steps(DeskTest):
    def test_each_sort_of_deed(self):
        desk = told(KINDS, TIDY, "put bag.0", "put box.0 s blue", "put box.0.lid.0 no", WISH)
        self.says(desk, ("look anna 0", "take anna 1 1 bag.0 1 -"), ("look otto 0", "set otto 1 1 box.0 2 - size m"),
                  ("come 0", "done"), ("come 0", "done"), ("look anna 0", "make anna 2 1 box.1 - m red"),
                  ("look otto 0", "set otto 2 1 box.0.lid.0 3 4 shut yes"), ("come 0", "done"), ("come 0", "done"),
                  ("look anna 0", "make anna 3 1 box.1.lid.0 5 no"), ("come 0", "done"), ("look anna 0", "none"),
                  ("world", "box.0 4 m blue\nbox.0.lid.0 6 yes\nbox.1 5 m red\nbox.1.lid.0 7 no"))
        desk = told(KINDS, "hands\nhand a\non lid : take : always", "put box.0 s red", "put box.0.lid.0 no")
        self.says(desk, ("look a 0", "take a 1 0 box.0.lid.0 2 1"))
        desk = told(KINDS, TIDY, "wish\nwant bag 1")
        self.says(desk, ("look anna 0", "make anna 1 1 bag.0 -"))

    def test_each_word(self):
        desk = told(KINDS, TIDY, "limit bag 1", "wish\nwant bag 2")
        self.says(desk, ("look anna 0", "make anna 1 1 bag.0 -"), ("look anna 0", "make anna 1 1 bag.0 -"),
                  ("twice 1", "done"), ("twice 1", "old"), ("come 1", "old"), ("come 1", "none"), ("lost 0", "none"),
                  ("lost 0", "none"), ("come 0", "none"), ("twice 0", "none"), ("why", "bag.1 full"))
        desk = told(KINDS, "hands\nhand a\non bag : make : always\nhand b\non bag : make : always", "limit bag 1",
                    "wish\nwant bag 2")
        desk.say("look a 0")
        self.says(desk, ("look b 0", "make b 1 1 bag.0 -"), ("come 0", "done"), ("come 0", "late"))

    def test_full(self):
        desk = told(KINDS, "hands\nhand a\non box : make : always\nhand b\non lid : make : owner ink blue\nhand c\n"
                    "on lid : make : owner ink red", "limit lid 1", "put box.0 s blue", "put box.1 s red",
                    "wish\nwant box 2\nwant lid 1")
        self.says(desk, ("look b 0", "make b 1 1 box.0.lid.0 1 no"), ("look c 0", "make c 1 1 box.1.lid.0 2 no"),
                  ("come 1", "done"), ("come 0", "full"), ("why", "box.0.lid.0 full"))

    def test_lost(self):
        desk = told(KINDS, TIDY, "put bag.0", "look anna 0")
        self.says(desk, ("lost 0", "none"), ("come 0", "none"), ("world", "bag.0 1"))

    def test_strange_hands(self):
        desk = told(KINDS, TIDY)
        for name in ("turn", "Anna", "?", "-", "1", "anna.0", "hand"):
            self.refuses(desk, f"look {name} 0", NoStep)

    def test_not_written_as_told(self):
        desk = told(KINDS, TIDY, "put bag.0", "look anna 0")
        for number in NUMBERS:
            for row in (f"look anna {number}", f"look ? {number}", f"come {number}", f"twice {number}",
                        f"lost {number}",
                        f"settle {number}"):
                self.refuses(desk, row, NoRow)
        for word in ("come", "twice", "lost", "settle"):
            for row in (word, f"{word} 0 0", f"{word}  0", f" {word} 0", f"{word} 0 ", f"{word}\n0", f"{word} 0\n",
                        f"{word.upper()} 0", f"{word}0", f"{word} anna 0"):
                self.refuses(desk, row, NoRow)
        for row in ("look", "look anna", "look 0", "look anna 0 0", "look  anna 0", "look anna  0", "look anna 0 ",
                    " look anna 0", "look anna 0\n", "look\nanna 0", "Look anna 0", "look anna otto 0"):
            self.refuses(desk, row, NoRow)
        self.says(desk, ("come 0", "done"))

    def test_numbers_of_twelve_figures(self):
        desk = told(KINDS, TIDY, "put bag.0")
        self.says(desk, ("look anna 999999999999", "take anna 1 0 bag.0 1 -"), ("come 999999999999", "none"),
                  ("settle 999999999999", "yes"), ("world", ""))

    def test_settle(self):
        desk = told(KINDS, TIDY, "put bag.0", WISH)
        self.says(desk, ("settle 0", "no"), ("world", "bag.0 1"), ("settle 1", "no"), ("world", ""), ("settle 5", "no"),
                  ("settle 1", "yes"), ("why", ""), ("settle 0", "yes"),
                  ("world", "box.0 2 m red\nbox.0.lid.0 5 yes\nbox.1 3 m red\nbox.1.lid.0 7 yes"))

    def test_settle_hands_that_never_rest(self):
        desk = told(KINDS, TURN, "put box.0 s red", "put box.0.lid.0 no")
        self.says(desk, ("settle 5", "no"), ("world", "box.0 1 s red\nbox.0.lid.0 7 yes"))


class Asked(DeskTest):
    def test_why(self):
        desk = told(KINDS, "limit box 1", TIDY, "put box.0 s red", "put bag.3", WISH)
        self.says(desk, ("why", "bag.3 open\nbox.0 open\nbox.0.lid.0 open\nbox.1 full\nbox.1.lid.0 owner"))

    def test_names_are_sorted_as_texts(self):
        desk = told(KINDS, *[f"put bag.{number}" for number in (10, 9, 2, 100, 1)])
        self.says(desk, ("world", "bag.1 5\nbag.10 1\nbag.100 4\nbag.2 3\nbag.9 2"),
                  ("why", "bag.1 open\nbag.10 open\nbag.100 open\nbag.2 open\nbag.9 open"))

    def test_measure(self):
        desk = told(KINDS, TIDY)
        # By anna and otto a lid takes two steps at most, a box two: made with its size, its ink set.
        self.says(desk, ("measure", "0"), ("put bag.0", "ok"), ("measure", "1"), (WISH, "ok"), ("measure", "7"),
                  ("look anna 0", "take anna 1 1 bag.0 1 -"), ("measure", "7"), ("come 0", "done"), ("measure", "6"),
                  ("settle 6", "yes"), ("measure", "0"), (TURN, "ok"), ("measure", "none"), ("hands\n", "ok"),
                  ("measure", "0"))

    def test_each_word_of_the_judge(self):
        ring = "\n".join([
            "hands", "hand a", "on bag : make : always : box", "on bag : take : not wanted",
            "on box : make : always : lid", "on box : take : not wanted : bag", "on lid : make : always",
            "on lid : take : not wanted", "on box : wish size : not meets size", "on box : wish ink : not meets ink",
            "on lid : wish shut : not meets shut"])
        desk = told(KINDS)
        self.says(desk, ("judge", "stuck bag"), (TIDY, "ok"), ("judge", "rests"), (TURN, "ok"),
                  ("judge", "round lid turn 0 turn 1"), (ring, "ok"))
        words = desk.say("judge").split(" ")
        self.assertEqual(words[0], "ring")
        self.assertIn(sorted(words[1:]), [["bag", "box"], ["box", "lid"], ["bag", "box", "lid"]])
        self.says(desk, (TIDY.replace("\non box : take : not wanted", ""), "ok"), ("judge", "stuck box"),
                  ("hands\nhand a\non box : set ink red : is ink red", "ok"), ("judge", "round box a 0"))

    def test_a_round_of_several_hands(self):
        desk = told("kinds\nkind a", "hands\nhand p\non a : make : always\nhand q\non a : take : wanted")
        self.assertIn(desk.say("judge"), ("round a p 0 q 0", "round a q 0 p 0"))

    def test_not_written_as_told(self):
        desk = told(KINDS, TIDY, "put bag.0")
        for word in ("world", "why", "measure", "judge"):
            for row in (f"{word} ", f" {word}", f"{word}\n", f"{word} 0", f"{word} bag", f"{word}  ", word.upper(),
                        f"{word}s",
                        f"\n{word}", f"{word}\n{word}"):
                self.refuses(desk, row, NoRow)


class NoRows(DeskTest):
    def test_what_is_no_text(self):
        for desk in (Desk(), told(KINDS, TIDY, "put bag.0")):
            for thing in NO_TEXTS + [b"world", ["world"], ("world",), {"world": 1}]:
                self.refuses(desk, thing, NoRow)

    def test_strange_rows(self):
        for desk in (Desk(), told(KINDS, TIDY, "put bag.0")):
            for row in ("", " ", "\n", "\n\n", "  ", "x", "help", "done", "ok", "none", "make a 1", "set", "take", "0",
                        "?",
                        "kinds kinds", "wish wish", "hand", "want bag 1", "kind bag", "world why", "x\ny", "~", "put"):
                self.refuses(desk, row, NoRow)

    def test_names_of_arguments(self):
        self.assertEqual(list(inspect.signature(Desk).parameters), [])
        self.assertEqual(Desk().say(row=KINDS), "ok")
        self.assertEqual(list(inspect.signature(Desk().say).parameters), ["row"])


class ManyDesks(DeskTest):
    def test_two_desks_by_turns(self):
        rows = [KINDS, "limit bag 2", TIDY, "put bag.0", "look anna 0", "measure", WISH, "why", "come 0", "settle 3",
                "world",
                TURN, "judge", "settle 2", "world", "look turn 0", "come 0", "why"]
        alone = Desk()
        right = [alone.say(row) for row in rows]
        first, second = Desk(), Desk()
        for row, answer in zip(rows, right):
            self.assertEqual((first.say(row), second.say(row)), (answer, answer))
        early, late = Desk(), Desk()
        for row in rows[:9]:
            early.say(row)
        self.assertEqual([late.say(row) for row in rows], right)
        self.assertEqual([early.say(row) for row in rows[9:]], right[9:])

    def test_refused_rows_change_nothing(self):
        rows = [KINDS, "limit bag 2", TIDY, "put bag.0", "put box.0 s red", "look anna 0", "look otto 0", "twice 0",
                WISH,
                "look anna 0", "look anna 1", "come 0", "world", "look anna 0", "settle 3", "why", "world", "measure",
                "judge",
                "look anna 2", "come 0", "come 0", "world"]
        wrong = itertools.cycle([
            "kinds\nkind", "hands\nhand", "hands\nhand a\non cup : take : always", "wish\nwant", "wish\nwant bag 61",
            None,
            "look ? 0", "put box.0 red s", "put cup.0", "limit cup 1", "come -1", "settle", "world 1", "put box.9 s s",
            ""])
        plain, hindered = Desk(), Desk()
        for row in rows:
            for _ in range(7):
                with self.assertRaises(RestError):
                    hindered.say(next(wrong))
            self.assertEqual(hindered.say(row), plain.say(row), row)


if __name__ == "__main__":
    unittest.main()
