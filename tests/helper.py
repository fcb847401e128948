"""Floors that the tests of floors and of their texts both look at."""

from math import gcd
from random import Random

NOUGHT = (0, 1)
ONE = (1, 1)
MOST_PAY = (10 ** 30, 1)
LEAST_PAY = (-10 ** 30, 1)
FINEST_PAY = (10 ** 30 - 1, 10 ** 6)
LEAST_FINEST_PAY = (-10 ** 30 + 1, 10 ** 6)

EXAMPLE_TEXT = "share 1/2; a one b 3, c 0; b chance a 1 1/2, c -2/3 1/2; c end 5"
EXAMPLE_NAMES = ["a", "b", "c"]


def example():
    """The floor of the document's example."""
    return (1, 2), [
        ("one", [(1, (3, 1)), (2, NOUGHT)]),
        ("chance", [(0, ONE, (1, 2)), (2, (-2, 3), (1, 2))]),
        ("end", (5, 1))]


def hand_ring(size):
    """Places of both hands in a ring, with one to six doors."""
    rows = []
    for place in range(size):
        doors = [((place + door) % size, (place - door, 1)) for door in range(1 + place // 2 % 6)]
        rows.append((("one", "other")[place % 2], doors))
    return rows


def named_edges():
    """Floors at the edges that the document names, as tuples (share, rows)."""
    return [
        (NOUGHT, [("end", NOUGHT)]),
        ((999, 1000), [("end", MOST_PAY)]),
        ((1, 1000), [("end", LEAST_PAY)]),
        ((1, 2), [("end", FINEST_PAY)]),
        ((1, 2), [("end", LEAST_FINEST_PAY)]),
        (NOUGHT, [("one", [(0, ONE)])]),
        ((998, 999), [("other", [(0, MOST_PAY), (0, LEAST_PAY), (0, FINEST_PAY), (0, LEAST_FINEST_PAY)])]),
        ((1, 3), [("chance", [(0, NOUGHT, ONE)])]),
        ((1, 3), [("chance", [(0, (1, 10 ** 6), (1, 10 ** 6)), (0, (2, 3), (10 ** 6 - 1, 10 ** 6))])]),
        ((1, 3), [("chance", [(0, NOUGHT, (1, 999999)), (0, ONE, (999998, 999999))])]),
        # Of these chances none has the common bottom 10 ** 6 by itself.
        ((2, 3), [("chance", [(0, ONE, (1, 64)), (1, MOST_PAY, (1, 64)), (0, LEAST_PAY, (1, 15625)),
                              (1, NOUGHT, (4, 15625)), (1, NOUGHT, (96843, 100000))]),
                  ("end", (-7, 2))]),
        ((999, 1000), [("one", [(1, ONE)] * 6), ("other", [(1, NOUGHT)] * 5 + [(0, NOUGHT)])]),
        ((999, 1000), [("chance", [(door % 2, (door, 7 if door % 7 else 1), (1, 6)) for door in range(6)]),
                       ("end", (3, 1))]),
        ((1, 7), hand_ring(12)),
        (NOUGHT, [("end", (place, 1)) for place in range(12)])]


def any_pay(source):
    top = source.choice([0, 1, -1, 3, -10, 10 ** 30, -10 ** 30, source.randrange(-10 ** 30, 10 ** 30)])
    bottom = source.choice([1, 2, 7, 999983, 10 ** 6, source.randrange(1, 10 ** 6)])
    divisor = gcd(top, bottom)
    return (top // divisor, bottom // divisor)


def any_chances(source, many):
    bottom = source.choice([many, 60, 1000, 10 ** 6])
    cuts = sorted(source.sample(range(1, bottom), many - 1))
    tops = [high - low for low, high in zip([0] + cuts, cuts + [bottom])]
    return [(top // gcd(top, bottom), bottom // gcd(top, bottom)) for top in tops]


def any_row(source, size):
    kind = source.choice(["one", "other", "chance", "end"])
    if kind == "end":
        return (kind, any_pay(source))
    doors = [(source.randrange(size), any_pay(source)) for _ in range(source.randrange(1, 7))]
    if kind == "chance":
        doors = [door + (chance,) for door, chance in zip(doors, any_chances(source, len(doors)))]
    return (kind, doors)


def any_floors(seed, many):
    """Floors by lot, the same ones for the same seed."""
    source = Random(seed)
    told = []
    for _ in range(many):
        size = source.randrange(1, 13)
        bottom = source.choice([2, 3, 1000, source.randrange(2, 1001)])
        top = source.choice([0, source.randrange(bottom)])
        share = (top // gcd(top, bottom), bottom // gcd(top, bottom))
        told.append((share, [any_row(source, size) for _ in range(size)]))
    return told


def all_floors():
    return [example()] + named_edges() + any_floors(6, 60)
