"""Floors as texts: `share S`, then a part for each place, with "; " between."""

from chanceduel.errors import NoName, NoText
from chanceduel.floors import Floor
from chanceduel.places import HANDS
from chanceduel.texts import read_fraction, show_fraction

LETTERS = "abcdefghijklmnopqrstuvwxyz"
MOST_LETTERS = 8


def show_door(door, names):
    return " ".join([names[door[0]]] + [show_fraction(number) for number in door[1:]])


def show_place(name, row, names):
    kind = row[0]
    if kind == "end":
        told = show_fraction(row[1])
    else:
        told = ", ".join([show_door(door, names) for door in row[1]])
    return f"{name} {kind} {told}"


def show_floor(floor, names):
    share = show_fraction(floor.share())
    places = [show_place(name, row, names) for name, row in zip(names, floor.rows())]
    return "; ".join([f"share {share}"] + places)


def is_name(text):
    # Not islower: it takes letters of other scripts, too.
    return 1 <= len(text) and len(text) <= MOST_LETTERS and all([sign in LETTERS for sign in text])


def read_name(text):
    if not is_name(text):
        raise NoText("a name has one to eight small letters")
    return text


def read_share(text):
    words = text.split(" ")
    if len(words) != 2 or words[0] != "share":
        raise NoText("a floor's text begins with the share")
    return read_fraction(words[1])


def read_door(text, length):
    words = text.split(" ")
    if len(words) != length:
        raise NoText("a door has two words, at chance's places three")
    return tuple([read_name(words[0])] + [read_fraction(word) for word in words[1:]])


def read_row(kind, text):
    if kind == "end":
        return (kind, read_fraction(text))
    if kind in HANDS:
        return (kind, [read_door(door, 2) for door in text.split(", ")])
    if kind == "chance":
        return (kind, [read_door(door, 3) for door in text.split(", ")])
    raise NoText("a place is one of the one, the other, chance, or an end")


# The row's doors keep the names of places, as the numbers of those that stand
# later in the text aren't known yet.
def read_place(text):
    words = text.split(" ", 2)
    if len(words) != 3:
        raise NoText("a place has a name, a kind, and doors or a pay")
    return (read_name(words[0]), read_row(words[1], words[2]))


def numbers_of(names):
    numbers = {}
    for number, name in enumerate(names):
        if name in numbers:
            raise NoName("two places have one name")
        numbers[name] = number
    return numbers


def numbered_door(door, numbers):
    if door[0] not in numbers:
        raise NoName("a door leads to no place's name")
    return (numbers[door[0]],) + door[1:]


def numbered_row(row, numbers):
    if row[0] == "end":
        return row
    return (row[0], [numbered_door(door, numbers) for door in row[1]])


def read_floor(text):
    parts = text.split("; ")
    share = read_share(parts[0])
    # Every part is read ahead of any look at the names, and these ahead of
    # the floor: so the refusals come in the order that is told.
    places = [read_place(part) for part in parts[1:]]
    names = [place[0] for place in places]
    numbers = numbers_of(names)
    rows = [numbered_row(place[1], numbers) for place in places]
    return (Floor(share, rows), names)
