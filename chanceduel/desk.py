"""The desk: it keeps floors by names, is told rows, and answers each with a text."""

from chanceduel.alikes import parted, together
from chanceduel.answers import against
from chanceduel.errors import NoName, NoRow, NoText
from chanceduel.floors import turned
from chanceduel.floortexts import is_name, read_floor, show_floor
from chanceduel.mending import worths
from chanceduel.places import HANDS
from chanceduel.plans import places_of, worths_of
from chanceduel.plays import mean_of, played
from chanceduel.reach import chances
from chanceduel.texts import read_figures, read_top, show_fraction

MOST_TURNS = 12
# The words of a row, the first one too; a floor's text has blanks of its own.
LENGTHS = {
    "floor": 3, "drop": 2, "turn": 3, "join": 3, "show": 2, "worth": 3, "plan": 3, "pair": 4, "hold": 4,
    "reach": 3, "alike": 2, "play": 4, "mean": 6}
ROWS_WITH_HAND = ("plan", "hold")


def words_of(row):
    words = row.split(" ")
    if words[0] == "floor":
        words = row.split(" ", 2)
    if words[0] not in LENGTHS or len(words) != LENGTHS[words[0]]:
        raise NoRow("a row has a known first word, and as many words as this one asks for")
    if words[0] in ROWS_WITH_HAND and words[2] not in HANDS:
        raise NoRow("a hand is the one or the other")
    return words


def new_name(word):
    if not is_name(word):
        raise NoName("a name has one to eight small letters")
    return word


# What stands by a name is a tuple (floor, names of its places).
def standing(kept, word):
    if word not in kept:
        raise NoName("no floor stands by this name")
    return kept[word]


def place_by(names, word):
    if word not in names:
        raise NoName("no place has this name")
    return names.index(word)


def pieces_of(word):
    return [] if word == "-" else word.split(",")


def plan_by(floor, hand, word):
    numbers = [read_figures(piece) for piece in pieces_of(word)]
    places = places_of(floor, hand)
    if len(numbers) != len(places):
        raise NoText("there is a door's number for each place of the hand")
    return dict(zip(places, numbers))


def turns_by(word):
    turns = read_figures(word)
    if turns > MOST_TURNS:
        raise NoText("there are at most twelve turns")
    return turns


def show_table(table):
    return " ".join([show_fraction(number) for number in table])


# In each of these the words are read from the left, so that the first fault
# is the one that is told, and what stands is changed last.
def say_floor(kept, words):
    name = new_name(words[1])
    kept[name] = read_floor(words[2])
    return "ok"


def say_drop(kept, words):
    standing(kept, words[1])
    kept.pop(words[1])
    return "ok"


def say_turn(kept, words):
    name = new_name(words[1])
    found = standing(kept, words[2])
    kept[name] = (turned(found[0]), found[1])
    return "ok"


def say_join(kept, words):
    name = new_name(words[1])
    found = standing(kept, words[2])
    joined = together(found[0])
    names = [found[1][joined[1].index(number)] for number in range(joined[0].size())]
    kept[name] = (joined[0], names)
    return "ok"


def say_show(kept, words):
    found = standing(kept, words[1])
    return show_floor(found[0], found[1])


def say_worth(kept, words):
    found = standing(kept, words[1])
    place = place_by(found[1], words[2])
    return show_fraction(worths(found[0])[place])


def say_plan(kept, words):
    floor = standing(kept, words[1])[0]
    table = worths(floor)
    doors = [str(floor.best(place, table)[0]) for place in places_of(floor, words[2])]
    return ",".join(doors) if len(doors) > 0 else "-"


def say_pair(kept, words):
    floor = standing(kept, words[1])[0]
    plan_one = plan_by(floor, "one", words[2])
    plan_other = plan_by(floor, "other", words[3])
    return show_table(worths_of(floor, plan_one, plan_other))


def say_hold(kept, words):
    floor = standing(kept, words[1])[0]
    plan = plan_by(floor, words[2], words[3])
    return show_table(against(floor, words[2], plan)[1])


def say_reach(kept, words):
    found = standing(kept, words[1])
    goals = [place_by(found[1], piece) for piece in pieces_of(words[2])]
    return show_table(chances(found[0], goals)[0])


def say_alike(kept, words):
    found = standing(kept, words[1])
    return " ".join([found[1][place] for place in parted(found[0])[-1]])


def say_play(kept, words):
    found = standing(kept, words[1])
    place = place_by(found[1], words[2])
    picks = [read_top(piece) for piece in pieces_of(words[3])]
    told = played(found[0], place, picks)
    return " ".join([found[1][told[1]], show_fraction(told[2])])


def say_mean(kept, words):
    found = standing(kept, words[1])
    place = place_by(found[1], words[2])
    turns = turns_by(words[3])
    plan_one = plan_by(found[0], "one", words[4])
    plan_other = plan_by(found[0], "other", words[5])
    return show_fraction(mean_of(found[0], plan_one, plan_other, place, turns)[0])


SAYINGS = {
    "floor": say_floor, "drop": say_drop, "turn": say_turn, "join": say_join, "show": say_show,
    "worth": say_worth, "plan": say_plan, "pair": say_pair, "hold": say_hold, "reach": say_reach,
    "alike": say_alike, "play": say_play, "mean": say_mean}


class Desk:
    def __init__(self):
        self.kept_floors = {}

    def say(self, row):
        words = words_of(row)
        return SAYINGS[words[0]](self.kept_floors, words)
