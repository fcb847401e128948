"""Rows that tell places: ("one", doors), ("other", doors), ("chance", doors) and ("end", pay)."""

from chanceduel.parts import common_divisor

HANDS = ("one", "other")
MOST_DOORS = 6
MOST_BOTTOM = 1000000


def fits_pay(pay):
    return abs(pay[0]) <= 10 ** 30 and pay[1] <= MOST_BOTTOM


def fits_door(door, size):
    return 0 <= door[0] and door[0] < size and fits_pay(door[1])


def common_bottom(chances):
    bottom = 1
    for chance in chances:
        bottom = bottom * chance[1] // common_divisor(bottom, chance[1])
    return bottom


def fits_chances(chances):
    if any([chance[0] <= 0 for chance in chances]):
        return False
    bottom = common_bottom(chances)
    whole = sum([chance[0] * (bottom // chance[1]) for chance in chances])
    return whole == bottom and bottom <= MOST_BOTTOM


def fits_doors(doors, size):
    if len(doors) < 1 or len(doors) > MOST_DOORS:
        return False
    return all([fits_door(door, size) for door in doors])


def fits_row(row, size):
    kind = row[0]
    if kind == "end":
        return fits_pay(row[1])
    if kind in HANDS:
        return fits_doors(row[1], size)
    if kind == "chance":
        return fits_doors(row[1], size) and fits_chances([door[2] for door in row[1]])
    return False


def copied_row(row):
    if row[0] == "end":
        return (row[0], row[1])
    return (row[0], list(row[1]))
