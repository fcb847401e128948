"""Floors: a share, and places that are told by rows."""

from chanceduel.errors import NoFloor, NoPlace
from chanceduel.parts import plus, times, under
from chanceduel.places import HANDS, copied_row, fits_row

MOST_PLACES = 12
MOST_SHARE_BOTTOM = 1000
TURNED_KINDS = {"one": "other", "other": "one", "chance": "chance"}


def fits_share(share):
    return 0 <= share[0] and share[0] < share[1] and share[1] <= MOST_SHARE_BOTTOM


def weighed(chances, numbers):
    whole = (0, 1)
    for chance, number in zip(chances, numbers):
        whole = plus(whole, times(chance, number))
    return whole


def greatest(numbers):
    found = numbers[0]
    for number in numbers:
        if under(found, number):
            found = number
    return found


def least(numbers):
    found = numbers[0]
    for number in numbers:
        if under(number, found):
            found = number
    return found


class Floor:
    # What is kept is copied on its way in and on its way out, so that no one
    # else holds a list of the floor's own.
    def __init__(self, share, rows):
        if not fits_share(share):
            raise NoFloor("a share is from 0 to below 1 with a bottom of at most 1000")
        if len(rows) < 1 or len(rows) > MOST_PLACES:
            raise NoFloor("a floor has 1 to 12 places")
        for place, row in enumerate(rows):
            if not fits_row(row, len(rows)):
                raise NoPlace(place)
        self.kept_share = share
        self.kept_rows = [copied_row(row) for row in rows]

    def size(self):
        return len(self.kept_rows)

    def share(self):
        return self.kept_share

    def kind(self, place):
        return self.kept_rows[place][0]

    def doors(self, place):
        if self.kind(place) == "end":
            return []
        return list(self.kept_rows[place][1])

    def pay(self, place):
        if self.kind(place) == "end":
            return self.kept_rows[place][1]
        return None

    def rows(self):
        return [copied_row(row) for row in self.kept_rows]

    def shown(self, place, door, table):
        taken = self.kept_rows[place][1][door]
        return plus(taken[1], times(self.kept_share, table[taken[0]]))

    def all_shown(self, place, table):
        return [self.shown(place, door, table) for door in range(len(self.doors(place)))]

    def look(self, place, table):
        kind = self.kind(place)
        if kind == "end":
            return self.pay(place)
        if kind == "chance":
            return weighed([door[2] for door in self.doors(place)], self.all_shown(place, table))
        if kind == "one":
            return greatest(self.all_shown(place, table))
        return least(self.all_shown(place, table))

    def best(self, place, table):
        if self.kind(place) not in HANDS:
            return []
        look = self.look(place, table)
        return [door for door, told in enumerate(self.all_shown(place, table)) if told == look]


def with_other_sign(pay):
    return (-pay[0], pay[1])


def turned_row(row):
    if row[0] == "end":
        return ("end", with_other_sign(row[1]))
    doors = [(door[0], with_other_sign(door[1])) + door[2:] for door in row[1]]
    return (TURNED_KINDS[row[0]], doors)


def turned(floor):
    return Floor(floor.share(), [turned_row(row) for row in floor.rows()])
