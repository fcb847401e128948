"""Mending: a hand's plan gets better doors round by round, until no door shows better."""

from chanceduel.answers import against
from chanceduel.plans import better_doors, doors_of, first_plan


def started(floor, hand, start):
    if start is None:
        return first_plan(floor, hand)
    return doors_of(floor, {hand: start})


# Each round has a plan and a table of its own, and so has what is told beside
# the rounds: a change of the one must not reach the other.
def mended(floor, hand="one", start=None):
    plan = started(floor, hand, start)
    rounds = []
    while True:
        found = against(floor, hand, plan)
        rounds.append((dict(plan), list(found[1])))
        better = better_doors(floor, plan, found[1])
        if len(better) == 0:
            return (plan, found[0], found[1], rounds)
        plan.update(better)


def worths(floor):
    return mended(floor)[2]
