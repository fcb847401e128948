"""Plans: dicts with a door's number for each place of a hand."""

from chanceduel.errors import NoPlan
from chanceduel.floors import weighed
from chanceduel.parts import minus, times
from chanceduel.places import HANDS, common_bottom
from chanceduel.rows import answer_of


def places_of(floor, hand):
    return [place for place in range(floor.size()) if floor.kind(place) == hand]


def first_plan(floor, hand):
    plan = {}
    for place in places_of(floor, hand):
        plan[place] = 0
    return plan


def has_door(floor, plan, place):
    return place in plan and 0 <= plan[place] and plan[place] < len(floor.doors(place))


# The plans come together, each by its hand, because the least faulty place of
# all of them is asked for. A plan's other places are left behind here, so that
# nothing past this looks at them.
def doors_of(floor, plans):
    doors = {}
    for place in range(floor.size()):
        hand = floor.kind(place)
        if hand not in plans:
            continue
        if not has_door(floor, plans[hand], place):
            raise NoPlan(place)
        doors[place] = plans[hand][place]
    return doors


def better_doors(floor, plan, table):
    better = {}
    for place in plan:
        best = floor.best(place, table)
        if plan[place] not in best:
            better[place] = best[0]
    return better


# A hand that has picked its door leaves nothing to it: as if chance took this
# door for sure.
def ways_from(floor, place, doors):
    ways = floor.doors(place)
    if floor.kind(place) in HANDS:
        return [ways[doors[place]] + ((1, 1),)]
    return ways


def whole_row(numbers):
    bottom = common_bottom(numbers)
    return [number[0] * (bottom // number[1]) for number in numbers]


# The unknowns are the numbers of the places; the row says that the place's own
# number, less the share of those where its ways lead, is what is given.
def led_row(floor, place, ways, share, given):
    numbers = [(0, 1)] * floor.size()
    numbers[place] = (1, 1)
    for way in ways:
        numbers[way[0]] = minus(numbers[way[0]], times(share, way[2]))
    return whole_row(numbers + [given])


def row_of(floor, place, doors):
    if floor.kind(place) == "end":
        return led_row(floor, place, [], floor.share(), floor.pay(place))
    ways = ways_from(floor, place, doors)
    paid = weighed([way[2] for way in ways], [way[1] for way in ways])
    return led_row(floor, place, ways, floor.share(), paid)


def worths_by(floor, doors):
    return answer_of([row_of(floor, place, doors) for place in range(floor.size())])


def worths_of(floor, plan_one, plan_other):
    return worths_by(floor, doors_of(floor, {"one": plan_one, "other": plan_other}))
