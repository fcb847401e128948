"""Goals, and the places from which the other can keep away from them for sure."""

from chanceduel.errors import NoGoal


def check_goals(floor, goals):
    ahead = -1
    for goal in goals:
        if goal <= ahead or goal >= floor.size() or floor.kind(goal) != "end":
            raise NoGoal(goal)
        ahead = goal


def is_drawn(floor, place, steps):
    if steps[place] is not None or floor.kind(place) == "end":
        return False
    known = [steps[door[0]] is not None for door in floor.doors(place)]
    if floor.kind(place) == "other":
        return all(known)
    return any(known)


def drawn_next(floor, steps):
    return [place for place in range(floor.size()) if is_drawn(floor, place, steps)]


def draw(floor, goals):
    check_goals(floor, goals)
    steps = [0 if place in goals else None for place in range(floor.size())]
    many = 1
    drawn = drawn_next(floor, steps)
    while len(drawn) > 0:
        # All of a step at once: else a place would count by one that is drawn
        # in the very same step.
        for place in drawn:
            steps[place] = many
        many = many + 1
        drawn = drawn_next(floor, steps)
    shut = [place for place, step in enumerate(steps) if step is None]
    return (shut, steps)
