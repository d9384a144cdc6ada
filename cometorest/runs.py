"""Runs: hands at work on a world, their deeds coming late, twice, or never."""

from cometorest.errors import NoStep
from cometorest.hands import check, deed
from cometorest.kinds import is_whole_from


def is_step(names, thing):
    # A text first: other things may say that they are equal to any word.
    if not isinstance(thing, tuple) or len(thing) == 0 or not isinstance(thing[0], str):
        return False
    if thing[0] == "look":
        return len(thing) == 3 and isinstance(thing[1], str) and thing[1] in names and is_whole_from(0, thing[2])
    if thing[0] in ("come", "twice", "lost"):
        return len(thing) == 2 and is_whole_from(0, thing[1])
    # What is wished is looked at by the world.
    return thing[0] == "wish" and len(thing) == 2


class Run:
    def __init__(self, world, kinds, hands):
        check(kinds, hands)
        self.world = world
        self.kinds = kinds
        self.hands = list(hands)
        self.looks = [world.look()]
        self.sent = []
        self.many_done = 0

    def step(self, step):
        if not is_step([hand.name for hand in self.hands], step):
            raise NoStep("a run takes the steps look, come, twice, lost and wish")
        if step[0] == "look":
            return self.send(step[1], step[2])
        if step[0] == "wish":
            return self.wish_anew(step[1])
        if step[1] >= len(self.sent):
            return None
        coming = self.sent[step[1]]
        if step[0] != "twice":
            self.sent.pop(step[1])
        return None if step[0] == "lost" else self.bring(coming)

    def on_the_way(self):
        return list(self.sent)

    def done(self):
        return self.many_done

    def settle(self, most):
        if not is_whole_from(0, most):
            raise NoStep("a run is settled by a whole number of deeds from 0 on")
        many = self.bring_all()
        at_work = True
        while at_work:
            at_work = False
            for hand in self.hands:
                coming = self.thought_of(hand, 0)
                if coming is not None and many >= most:
                    return False
                if coming is not None:
                    # Thought of by the newest look and come at once, it is done for sure.
                    self.bring(coming)
                    many = many + 1
                    at_work = True
        return True

    def thought_of(self, hand, age):
        place = max(len(self.looks) - 1 - age, 0)
        return deed(self.kinds, hand, self.looks[place])

    def send(self, name, age):
        hand = [one for one in self.hands if one.name == name][0]
        thought = self.thought_of(hand, age)
        if thought is not None:
            self.sent.append(thought)
        return thought

    def wish_anew(self, wishes):
        self.world.tell(wishes)
        self.looks.append(self.world.look())
        self.many_done = 0

    def bring(self, coming):
        word = self.world.do(coming)
        if word == "done":
            self.looks.append(self.world.look())
            self.many_done = self.many_done + 1
        return word

    def bring_all(self):
        # Told is how many of them were done.
        coming = self.on_the_way()
        self.sent = []
        return len([word for word in [self.bring(one) for one in coming] if word == "done"])
