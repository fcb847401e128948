"""Answers to held plans: plans of the opposite hand that no other one does better than."""

from chanceduel.floors import TURNED_KINDS
from chanceduel.plans import better_doors, doors_of, first_plan, worths_by


def worths_against(floor, held, answer):
    doors = dict(held)
    doors.update(answer)
    return worths_by(floor, doors)


# Better doors at all places that have one make the answer nowhere worse and
# somewhere better: so none comes twice, and this ends.
def against(floor, hand, plan):
    held = doors_of(floor, {hand: plan})
    answer = first_plan(floor, TURNED_KINDS[hand])
    table = worths_against(floor, held, answer)
    better = better_doors(floor, answer, table)
    while len(better) > 0:
        answer.update(better)
        table = worths_against(floor, held, answer)
        better = better_doors(floor, answer, table)
    return (answer, table)
