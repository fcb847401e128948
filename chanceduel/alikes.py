"""Alike places: parted by rounds, and put together."""

from chanceduel.floors import Floor
from chanceduel.parts import plus


# Where each mark first comes: so a class is known by its least place.
def classes_by(marks):
    return [marks.index(mark) for mark in marks]


def first_classes(floor):
    return classes_by([(floor.kind(place), floor.pay(place)) for place in range(floor.size())])


# The pairs (pay, class) of a place's doors, in the order in which they first
# come. A hand can take any of its doors at will: so how many doors have a pair
# doesn't count at its places.
def pairs_of(floor, place, classes):
    pairs = {}
    for door in floor.doors(place):
        pair = (door[1], classes[door[0]])
        if floor.kind(place) == "chance":
            pairs[pair] = plus(pairs.get(pair, (0, 1)), door[2])
        else:
            pairs[pair] = (1, 1)
    return pairs


def next_classes(floor, classes):
    return classes_by([(classes[place], pairs_of(floor, place, classes)) for place in range(floor.size())])


def parted(floor):
    rounds = [first_classes(floor)]
    classes = next_classes(floor, rounds[-1])
    while classes != rounds[-1]:
        rounds.append(classes)
        classes = next_classes(floor, classes)
    return rounds


def joined_row(floor, place, classes, leasts):
    if floor.kind(place) == "end":
        return ("end", floor.pay(place))
    pairs = pairs_of(floor, place, classes)
    doors = [(leasts.index(pair[1]), pair[0], pairs[pair]) for pair in pairs]
    if floor.kind(place) == "chance":
        return ("chance", doors)
    return (floor.kind(place), [door[:2] for door in doors])


def together(floor):
    classes = parted(floor)[-1]
    leasts = sorted(set(classes))
    rows = [joined_row(floor, place, classes, leasts) for place in leasts]
    return (Floor(floor.share(), rows), [leasts.index(least) for least in classes])
