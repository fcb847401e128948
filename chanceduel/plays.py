"""Plays: what is gathered, what a step brings over a table, and the mean of so many turns."""

from chanceduel.parts import minus, plus, times
from chanceduel.places import HANDS, common_bottom
from chanceduel.plans import doors_of, ways_from


# Each of chance's doors takes as many remainders as its chance says, in the
# order of the doors.
def chance_door(chances, pick):
    bottom = common_bottom(chances)
    rest = pick % bottom
    door = 0
    taken = chances[0][0] * (bottom // chances[0][1])
    while rest >= taken:
        door = door + 1
        taken = taken + chances[door][0] * (bottom // chances[door][1])
    return door


def door_by(floor, place, pick):
    doors = floor.doors(place)
    if floor.kind(place) in HANDS:
        return pick % len(doors)
    return chance_door([door[2] for door in doors], pick)


def played(floor, place, picks):
    steps = []
    gathered = (0, 1)
    counts = (1, 1)
    for pick in picks:
        if floor.kind(place) == "end":
            break
        door = door_by(floor, place, pick)
        steps.append((place, door))
        taken = floor.doors(place)[door]
        gathered = plus(gathered, times(counts, taken[1]))
        counts = times(counts, floor.share())
        place = taken[0]
    if floor.kind(place) == "end":
        gathered = plus(gathered, times(counts, floor.pay(place)))
    return (steps, place, gathered)


def brought(floor, table, place, door):
    return minus(floor.shown(place, door, table), table[place])


# The means of one turn more: a turn pays its door and leaves the means of one
# turn fewer, counted by the share.
def more_means(floor, doors, means):
    told = []
    for place in range(floor.size()):
        if place in doors:
            told.append(floor.shown(place, doors[place], means))
        else:
            told.append(floor.look(place, means))
    return told


def first_means(floor):
    return [(0, 1) if floor.pay(place) is None else floor.pay(place) for place in range(floor.size())]


def chances_next(floor, doors, chances):
    told = [(0, 1)] * floor.size()
    for place, chance in enumerate(chances):
        if floor.kind(place) == "end":
            told[place] = plus(told[place], chance)
            continue
        for way in ways_from(floor, place, doors):
            told[way[0]] = plus(told[way[0]], times(chance, way[2]))
    return told


def mean_of(floor, plan_one, plan_other, place, turns):
    doors = doors_of(floor, {"one": plan_one, "other": plan_other})
    means = first_means(floor)
    chances = [(1, 1) if here == place else (0, 1) for here in range(floor.size())]
    for turn in range(turns):
        means = more_means(floor, doors, means)
        chances = chances_next(floor, doors, chances)
    return (means[place], chances)
