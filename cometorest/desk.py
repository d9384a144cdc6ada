"""The desk: rows are told to it, texts, and each is answered by a text."""

from cometorest.deeds import Make, Set
from cometorest.errors import NoRow
from cometorest.finding import sought
from cometorest.judging import judge, why
from cometorest.papers import measure
from cometorest.runs import Run
from cometorest.texts import number_in, read_hands, read_kinds, read_wishes
from cometorest.world import World

# The parts behind a row's first word; put, whose parts are any number of words, stands by itself.
FORMS = {
    "limit": ("word", "number"),
    "look": ("word", "number"),
    "come": ("number",),
    "twice": ("number",),
    "lost": ("number",),
    "settle": ("number",),
    "world": (),
    "why": (),
    "measure": (),
    "judge": (),
}


def parts_in(row):
    words = row.split(" ")
    if not all([len(word) > 0 for word in words]):
        raise NoRow("the words of a row are parted by one blank each")
    if words[0] == "put" and len(words) > 1:
        return words
    form = FORMS.get(words[0])
    if form is None or len(words) != len(form) + 1:
        raise NoRow("this is no row that a desk is told")
    pairs = list(zip(form, words[1:]))
    parts = [number_in(word) if sort == "number" else word for sort, word in pairs]
    if None in parts:
        raise NoRow("a number is written by one to twelve figures, without a nought ahead")
    return [words[0]] + parts


def words_of(part):
    if part is None:
        return ["-"]
    return list(part) if isinstance(part, tuple) else [str(part)]


def deed_text(sent):
    if isinstance(sent, Make):
        words = ["make"]
    else:
        words = ["set"] if isinstance(sent, Set) else ["take"]
    for part in sent.parts():
        words.extend(words_of(part))
    return " ".join(words)


def world_text(look):
    rows = []
    for name in look.names():
        there = look.thing(name)
        rows.append(" ".join([name, str(there[1])] + list(there[0])))
    return "\n".join(rows)


def why_text(told):
    return "\n".join([f"{name} {word}" for name, word in sorted(told.items())])


def measure_text(run):
    found = sought(run.kinds, run.hands)
    if found[0] == "round":
        return "none"
    return str(measure(run.kinds, found[1], run.world.look()))


def judge_text(told):
    words = [told[0]]
    if told[0] == "ring":
        words.extend(told[1])
    elif told[0] != "rests":
        words.append(told[1][0])
    if told[0] == "round":
        for step in told[2]:
            words.extend([step[0], str(step[1])])
    return " ".join(words)


class Desk:
    def __init__(self):
        # The run holds kinds, world and hands: a new one takes the place of them all at once, or of none.
        self.run = None

    def say(self, row):
        if not isinstance(row, str):
            raise NoRow("a desk is told texts")
        ahead = row.partition("\n")
        if ahead[1] == "\n":
            return self.take_text(ahead[0], ahead[2])
        parts = parts_in(row)
        if self.run is None:
            raise NoRow("there are no kinds yet")
        return self.answer(parts)

    def take_text(self, word, text):
        if word == "kinds":
            kinds = read_kinds(text)
            self.run = Run(World(kinds), kinds, [])
            return "ok"
        if self.run is None or word not in ("hands", "wish"):
            raise NoRow("behind this row no text is told, or there are no kinds yet")
        if word == "hands":
            self.run = Run(self.run.world, self.run.kinds, read_hands(text))
        else:
            self.run.step(("wish", read_wishes(self.run.kinds, text)))
        return "ok"

    def answer(self, parts):
        word = parts[0]
        if word == "limit":
            return self.limit_to(parts[1], parts[2])
        if word == "put":
            return self.put_there(parts[1], tuple(parts[2:]))
        if word == "settle":
            return "yes" if self.run.settle(parts[1]) else "no"
        if word == "look":
            sent = self.run.step(("look", parts[1], parts[2]))
            return "none" if sent is None else deed_text(sent)
        if word in ("come", "twice", "lost"):
            told = self.run.step((word, parts[1]))
            return "none" if told is None else told
        return self.state_of_things(word)

    def state_of_things(self, word):
        if word == "world":
            return world_text(self.run.world.look())
        if word == "why":
            return why_text(why(self.run.kinds, self.run.world.look()))
        if word == "measure":
            return measure_text(self.run)
        return judge_text(judge(self.run.kinds, self.run.hands))

    def limit_to(self, kind, many):
        look = self.run.world.look()
        if look.names() or look.turn() > 0:
            raise NoRow("limits are told ahead of things and wishes")
        limits = dict(self.run.world.limits)
        limits[kind] = many
        self.run = Run(World(self.run.kinds, limits), self.run.kinds, self.run.hands)
        return "ok"

    def put_there(self, name, state):
        if self.run.world.look().turn() > 0:
            raise NoRow("things are put ahead of wishes")
        self.run.world.put(name, state)
        self.run = Run(self.run.world, self.run.kinds, self.run.hands)
        return "ok"
