"""The chances of goals: the greatest with which the one brings the piece to one of them."""

from chanceduel.floors import Floor, greatest, least
from chanceduel.plans import first_plan, led_row, places_of, ways_from
from chanceduel.rows import answer_of
from chanceduel.shuts import draw


# At a shut place of the one no door leads to a place with steps: any will do.
def drawn_door(floor, place, steps):
    for door, way in enumerate(floor.doors(place)):
        if steps[way[0]] is not None and steps[way[0]] < steps[place]:
            return door
    return 0


# By this plan the play comes to goals or shut places for sure, whatever the
# other does: each such plan has just one table.
def drawn_plan(floor, steps):
    plan = {}
    for place in places_of(floor, "one"):
        plan[place] = drawn_door(floor, place, steps)
    return plan


def chance_row(floor, place, doors, steps):
    if steps[place] is None:
        return led_row(floor, place, [], (1, 1), (0, 1))
    if steps[place] == 0:
        return led_row(floor, place, [], (1, 1), (1, 1))
    return led_row(floor, place, ways_from(floor, place, doors), (1, 1), (0, 1))


def chances_by(floor, plan, answer, steps):
    doors = dict(plan)
    doors.update(answer)
    return answer_of([chance_row(floor, place, doors, steps) for place in range(floor.size())])


# A door is changed for a strictly better one alone: one that keeps the number
# might lead round and round, and never to a goal.
def better_led(floor, plan, table):
    better = {}
    for place in plan:
        numbers = [table[door[0]] for door in floor.doors(place)]
        best = greatest(numbers) if floor.kind(place) == "one" else least(numbers)
        if numbers[plan[place]] != best:
            better[place] = numbers.index(best)
    return better


def kept_least(floor, plan, steps):
    answer = first_plan(floor, "other")
    while True:
        table = chances_by(floor, plan, answer, steps)
        better = better_led(floor, answer, table)
        if len(better) == 0:
            return (answer, table)
        answer.update(better)


def held_row(row, place, plan):
    if place in plan:
        return (row[0], [row[1][plan[place]]])
    return row


# The draw on the floor that has the plan's doors alone at the one's places
# gives steps by this very plan.
def steps_by(floor, plan, goals):
    rows = [held_row(row, place, plan) for place, row in enumerate(floor.rows())]
    return draw(Floor(floor.share(), rows), goals)[1]


def chances(floor, goals):
    steps = draw(floor, goals)[1]
    plan = drawn_plan(floor, steps)
    while True:
        found = kept_least(floor, plan, steps)
        better = better_led(floor, plan, found[1])
        if len(better) == 0:
            return (found[1], plan, found[0], steps_by(floor, plan, goals))
        plan.update(better)
