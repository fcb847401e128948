"""What several tests share: floors, plans, and the document's words of them with Python's own fractions."""

from copy import deepcopy
from fractions import Fraction
from itertools import combinations, product
from math import gcd
from random import Random

from chanceduel.errors import DuelError, NoGoal, NoPlan
from chanceduel.floors import Floor

NOUGHT = (0, 1)
ONE = (1, 1)
HALF = (1, 2)
MOST_PAY = (10 ** 30, 1)
LEAST_PAY = (-10 ** 30, 1)
FINEST_PAY = (10 ** 30 - 1, 10 ** 6)
LEAST_FINEST_PAY = (-10 ** 30 + 1, 10 ** 6)

EXAMPLE_TEXT = "share 1/2; a one b 3, c 0; b chance a 1 1/2, c -2/3 1/2; c end 5"
EXAMPLE_NAMES = ["a", "b", "c"]


def example():
    """The floor of the document's example."""
    return (1, 2), [
        ("one", [(1, (3, 1)), (2, NOUGHT)]),
        ("chance", [(0, ONE, (1, 2)), (2, (-2, 3), (1, 2))]),
        ("end", (5, 1))]


def hand_ring(size):
    """Places of both hands in a ring, with one to six doors."""
    rows = []
    for place in range(size):
        doors = [((place + door) % size, (place - door, 1)) for door in range(1 + place // 2 % 6)]
        rows.append((("one", "other")[place % 2], doors))
    return rows


def named_edges():
    """Floors at the edges that the document names, as tuples (share, rows)."""
    return [
        (NOUGHT, [("end", NOUGHT)]),
        ((999, 1000), [("end", MOST_PAY)]),
        ((1, 1000), [("end", LEAST_PAY)]),
        ((1, 2), [("end", FINEST_PAY)]),
        ((1, 2), [("end", LEAST_FINEST_PAY)]),
        (NOUGHT, [("one", [(0, ONE)])]),
        ((998, 999), [("other", [(0, MOST_PAY), (0, LEAST_PAY), (0, FINEST_PAY), (0, LEAST_FINEST_PAY)])]),
        ((1, 3), [("chance", [(0, NOUGHT, ONE)])]),
        ((1, 3), [("chance", [(0, (1, 10 ** 6), (1, 10 ** 6)), (0, (2, 3), (10 ** 6 - 1, 10 ** 6))])]),
        ((1, 3), [("chance", [(0, NOUGHT, (1, 999999)), (0, ONE, (999998, 999999))])]),
        # Of these chances none has the common bottom 10 ** 6 by itself.
        ((2, 3), [("chance", [(0, ONE, (1, 64)), (1, MOST_PAY, (1, 64)), (0, LEAST_PAY, (1, 15625)),
                              (1, NOUGHT, (4, 15625)), (1, NOUGHT, (96843, 100000))]),
                  ("end", (-7, 2))]),
        ((999, 1000), [("one", [(1, ONE)] * 6), ("other", [(1, NOUGHT)] * 5 + [(0, NOUGHT)])]),
        ((999, 1000), [("chance", [(door % 2, (door, 7 if door % 7 else 1), (1, 6)) for door in range(6)]),
                       ("end", (3, 1))]),
        ((1, 7), hand_ring(12)),
        (NOUGHT, [("end", (place, 1)) for place in range(12)])]


def any_pay(source):
    top = source.choice([0, 1, -1, 3, -10, 10 ** 30, -10 ** 30, source.randrange(-10 ** 30, 10 ** 30)])
    bottom = source.choice([1, 2, 7, 999983, 10 ** 6, source.randrange(1, 10 ** 6)])
    divisor = gcd(top, bottom)
    return (top // divisor, bottom // divisor)


def any_chances(source, many):
    bottom = source.choice([many, 60, 1000, 10 ** 6])
    cuts = sorted(source.sample(range(1, bottom), many - 1))
    tops = [high - low for low, high in zip([0] + cuts, cuts + [bottom])]
    return [(top // gcd(top, bottom), bottom // gcd(top, bottom)) for top in tops]


def any_row(source, size):
    kind = source.choice(["one", "other", "chance", "end"])
    if kind == "end":
        return (kind, any_pay(source))
    doors = [(source.randrange(size), any_pay(source)) for _ in range(source.randrange(1, 7))]
    if kind == "chance":
        doors = [door + (chance,) for door, chance in zip(doors, any_chances(source, len(doors)))]
    return (kind, doors)


def any_floors(seed, many):
    """Floors by lot, the same ones for the same seed."""
    source = Random(seed)
    told = []
    for _ in range(many):
        size = source.randrange(1, 13)
        bottom = source.choice([2, 3, 1000, source.randrange(2, 1001)])
        top = source.choice([0, source.randrange(bottom)])
        share = (top // gcd(top, bottom), bottom // gcd(top, bottom))
        told.append((share, [any_row(source, size) for _ in range(size)]))
    return told


def all_floors():
    return [example()] + named_edges() + any_floors(6, 60)


def small_row(source, size):
    kind = source.choice(["one", "other", "one", "other", "chance", "end"])
    if kind == "end":
        return (kind, (source.randrange(-4, 5), 1))
    pays = source.choices([NOUGHT, NOUGHT, ONE, (-1, 1), (1, 2), (3, 1), (-5, 2)], k=source.randrange(1, 4))
    doors = [(source.randrange(size), pay) for pay in pays]
    if kind == "chance":
        doors = [door + ((1, len(doors)),) for door in doors]
    return (kind, doors)


def small_floors(seed, many):
    """Floors with few places, doors and pays: so all plans can be looked at, and doors often show the same."""
    source = Random(seed)
    told = []
    for number in range(many):
        size = 1 + number % 5
        share = source.choice([NOUGHT, (1, 2), (2, 3), (9, 10), (999, 1000)])
        told.append((share, [small_row(source, size) for _ in range(size)]))
    return told


def hard_row(source, kind, place):
    """Six doors, the first one to the place itself, with pays as great and as fine as may be."""
    bottoms = source.sample([999983, 999979, 999961, 999959, 999953, 999931, 10 ** 6], 6)
    tops = [source.choice([-1, 1]) * (10 ** 30 - source.randrange(1, 1000)) for _ in bottoms]
    pays = [(top // gcd(top, bottom), bottom // gcd(top, bottom)) for top, bottom in zip(tops, bottoms)]
    if kind == "end":
        return (kind, pays[0])
    doors = [(place if door == 0 else source.randrange(12), pay) for door, pay in enumerate(pays)]
    if kind == "chance":
        doors = [door + (chance,) for door, chance in zip(doors, any_chances(source, 6))]
    return (kind, doors)


def hard_floors(seed, many):
    """Floors of twelve places of all four kinds, with the greatest share and pays."""
    source = Random(seed)
    told = []
    for _ in range(many):
        kinds = ["one", "other", "chance"] * 3 + ["one", "other", "end"]
        source.shuffle(kinds)
        told.append(((999, 1000), [hard_row(source, kind, place) for place, kind in enumerate(kinds)]))
    return told


def hand_floors(seed, many):
    """Floors of eight places of both hands and of chance, whose plans want several rounds of mending."""
    source = Random(seed)
    told = []
    for _ in range(many):
        rows = []
        for kind in source.choices(["one", "other", "chance"], k=8):
            doors = [(source.randrange(8), (source.randrange(-3, 4), 1)) for _ in range(4)]
            rows.append((kind, [door + ((1, 4),) for door in doors] if kind == "chance" else doors))
        told.append((source.choice([(9, 10), (99, 100)]), rows))
    return told


def split_doors(source, doors, kind):
    """The same doors in another form: in another order, a hand's perhaps twice, chance's perhaps in two parts."""
    told = list(doors)
    if len(told) < 6 and source.randrange(3) > 0:
        more = told.pop(source.randrange(len(told)))
        if kind == "chance":
            part = plain(Fraction(*more[2]) / source.choice([2, 3]))
            rest = plain(Fraction(*more[2]) - Fraction(*part))
            told += [more[:2] + (part,), more[:2] + (rest,)]
        else:
            told += [more, more]
    source.shuffle(told)
    return told


def doubled(source, rows):
    """The rows with several copies of each, in any order, whose doors lead to any copies."""
    copies = list(range(len(rows)))
    copies += source.choices(copies, k=source.randrange(13 - len(rows)))
    source.shuffle(copies)
    told = []
    for place in copies:
        kind, doors = rows[place]
        if kind != "end":
            doors = [(source.choice([at for at, other in enumerate(copies) if other == door[0]]),) + door[1:]
                     for door in split_doors(source, doors, kind)]
        told.append((kind, doors))
    return told


def doubled_floors(seed, many):
    """Floors of at most twelve places, many of which are alike."""
    source = Random(seed)
    return [(share, doubled(source, rows)) for share, rows in small_floors(seed, many)]


def floors_for_plans():
    return all_floors() + small_floors(12, 60) + hard_floors(13, 4) + hand_floors(14, 12)


def plain(one):
    return (one.numerator, one.denominator)


def is_table(told, size):
    """Whether this is a list of so many fractions in lowest terms."""
    return type(told) is list and len(told) == size and all(
        type(one) is tuple and [type(part) for part in one] == [int, int] and one[1] >= 1 and gcd(*one) == 1
        for one in told)


def doors_show(share, row, table):
    """What the doors of a row show by a table."""
    doors = [] if row[0] == "end" else row[1]
    return [Fraction(*door[1]) + Fraction(*share) * Fraction(*table[door[0]]) for door in doors]


def row_looks(share, row, table):
    """The look of a row's place by a table."""
    if row[0] == "end":
        return Fraction(*row[1])
    shown = doors_show(share, row, table)
    if row[0] == "chance":
        return sum(Fraction(*door[2]) * number for door, number in zip(row[1], shown))
    return (max if row[0] == "one" else min)(shown)


def told_by(share, rows, doors, table):
    """What each place has by the table: what its door shows where doors has one, else its look."""
    return [plain(doors_show(share, row, table)[doors[place]] if place in doors else row_looks(share, row, table))
            for place, row in enumerate(rows)]


def doors_of_hand(rows, hand):
    """The number of doors of each of the hand's places."""
    return {place: len(row[1]) for place, row in enumerate(rows) if row[0] == hand}


def opposite(hand):
    return {"one": "other", "other": "one"}[hand]


def all_plans(rows, hand):
    counts = doors_of_hand(rows, hand)
    return [dict(zip(counts, doors)) for doors in product(*[range(many) for many in counts.values()])]


def any_plan(source, rows, hand):
    return {place: source.randrange(many) for place, many in doors_of_hand(rows, hand).items()}


def is_plan(told, rows, hand):
    """Whether this is a plan of the hand with just the hand's places."""
    counts = doors_of_hand(rows, hand)
    return type(told) is dict and set(told) == set(counts) and all(
        type(door) is int and 0 <= door < counts[place] for place, door in told.items())


def with_more(plan, rows, hand):
    """The plan with wrong doors at places that aren't the hand's, on the floor and off it."""
    more = {place: 99 for place in range(-3, len(rows) + 3) if place not in doors_of_hand(rows, hand)}
    return {10 ** 40: -1, **more, **plan, -10 ** 40: 10 ** 40}


def without(plan, place):
    return {other: door for other, door in plan.items() if other != place}


def wrong_plans(rows, hand):
    """Plans with one fault, as tuples (the place of the fault, plan)."""
    told = []
    for place, many in doors_of_hand(rows, hand).items():
        plan = {other: 0 for other in doors_of_hand(rows, hand)}
        told.append((place, without(plan, place)))
        told += [(place, {**plan, place: door}) for door in (-1, -many, many, many + 1, 10 ** 40, -10 ** 40)]
    return told


def plans_at_fault(rows, hand):
    """Plans with one fault or several, as tuples (the least place of a fault, plan)."""
    singles = wrong_plans(rows, hand)
    told = list(singles)
    for place, plan in singles:
        for other in plan:
            if other != place:
                told += [(min(place, other), {**plan, other: -1}), (min(place, other), without(plan, other))]
    if singles:
        told.append((singles[0][0], {}))
        told.append((singles[0][0], {len(rows): 0, -1: 0}))
    return told


def assert_plans_refused(case, floors, ask):
    """Holds ask(floor, hand, plan) to refusing each plan at fault with its least place, and leaving it as it was."""
    for share, rows in floors:
        floor = Floor(share, rows)
        for hand in ("one", "other"):
            for place, plan in plans_at_fault(rows, hand):
                for handed in (plan, with_more(plan, rows, hand)):
                    kept = dict(handed)
                    with case.subTest(rows=rows, hand=hand, plan=handed):
                        with case.assertRaises(NoPlan) as taken:
                            ask(floor, hand, handed)
                        case.assertEqual(taken.exception.place, place)
                        case.assertEqual(type(taken.exception).__bases__, (DuelError,))
                        case.assertEqual(handed, kept)


def to(*places):
    return [(place, NOUGHT) for place in places]


def chance_to(*places):
    return [(place, NOUGHT, (1, len(places))) for place in places]


def bare(rows):
    """The rows with pays of nought."""
    return [(row[0], NOUGHT if row[0] == "end" else [(door[0], NOUGHT) + door[2:] for door in row[1]])
            for row in rows]


def ends_of(rows):
    return [place for place, row in enumerate(rows) if row[0] == "end"]


def all_goals(rows):
    ends = ends_of(rows)
    return [list(goals) for many in range(len(ends) + 1) for goals in combinations(ends, many)]


def leads_below(row, steps, bound):
    """Whether some door, or every one at the other's place, leads to a place with fewer steps than the bound."""
    below = [steps[door[0]] is not None and steps[door[0]] < bound for door in row[1]]
    return all(below) if row[0] == "other" else any(below)


class GoalCases:
    """What is refused of goals, and that nothing changes, for a test with ask(floor, goals) and floors()."""

    ROWS = [("end", ONE), ("one", to(0)), ("end", ONE), ("end", NOUGHT), ("other", to(2)), ("chance", chance_to(3, 0)),
            ("end", ONE)]

    def assert_no_goal(self, place, goals):
        kept = list(goals)
        with self.subTest(goals=goals):
            with self.assertRaises(NoGoal) as taken:
                self.ask(Floor(HALF, self.ROWS), goals)
            self.assertEqual(taken.exception.place, place)
            self.assertEqual(type(taken.exception).__bases__, (DuelError,))
            self.assertEqual(goals, kept)

    def test_no_ends(self):
        for place in (1, 4, 5):
            self.assert_no_goal(place, [place])
            self.assert_no_goal(place, [0, place])
            self.assert_no_goal(place, [place, 6])

    def test_off_the_floor(self):
        for place in (-1, -2, -5, -6, -7, -8, -10 ** 40, 7, 8, 12, 10 ** 40, 10 ** 900, -10 ** 900):
            self.assert_no_goal(place, [place])
            self.assert_no_goal(place, [0, 2, place])
            self.assert_no_goal(place, [place, 0])
            self.assert_no_goal(place, [0, place, 6])

    def test_not_rising(self):
        self.assert_no_goal(0, [2, 0])
        self.assert_no_goal(2, [0, 3, 2])
        self.assert_no_goal(3, [0, 2, 6, 3])
        self.assert_no_goal(0, [3, 0, 6, 2])

    def test_twice_the_same(self):
        for place in (0, 2, 3, 6):
            self.assert_no_goal(place, [place, place])
        self.assert_no_goal(2, [0, 2, 2, 3])
        self.assert_no_goal(6, [0, 2, 3, 6, 6])

    def test_the_first_of_several(self):
        self.assert_no_goal(4, [0, 4, 2, 2, 99])
        self.assert_no_goal(2, [0, 3, 2, 99, 1])
        self.assert_no_goal(99, [0, 99, 3, 3, -1])
        self.assert_no_goal(-1, [0, -1, 99])
        self.assert_no_goal(5, [5, 4, 1])
        self.assert_no_goal(0, [2, 0, 0, 1])

    def test_any_lists_by_lot(self):
        source = Random(53)
        refused = 0
        for _ in range(2000):
            goals = [source.randrange(-2, 9) for _ in range(source.randrange(5))]
            wrong = [goal for number, goal in enumerate(goals)
                     if goal not in (0, 2, 3, 6) or number > 0 and goal <= goals[number - 1]]
            if wrong:
                refused = refused + 1
                self.assert_no_goal(wrong[0], goals)
            else:
                self.ask(Floor(HALF, self.ROWS), goals)
        self.assertGreater(refused, 1000)
        self.assertLess(refused, 2000)

    def test_without_any_end(self):
        for goals in ([0], [-1], [11], [12], [3, 3]):
            with self.assertRaises(NoGoal) as taken:
                self.ask(Floor(HALF, hand_ring(12)), goals)
            self.assertEqual(taken.exception.place, goals[0])

    def test_what_was_handed_in_stays(self):
        for share, rows in self.floors():
            floor = Floor(share, rows)
            goals = ends_of(rows)
            kept = list(goals)
            told = self.ask(floor, goals)
            kept_told = deepcopy(told)
            self.assertEqual(goals, kept)
            self.assertEqual((floor.share(), floor.rows()), (share, rows))
            goals.append(99)
            self.assertEqual(told, kept_told)

    def test_what_was_told_is_changed(self):
        for share, rows in self.floors():
            floor = Floor(share, rows)
            for goals in (ends_of(rows), ends_of(rows)[:1], []):
                told = self.ask(floor, goals)
                kept = deepcopy(told)
                other_told = self.ask(floor, goals)
                for number, part in enumerate(told):
                    part.clear()
                    self.assertEqual(told[number + 1:], kept[number + 1:])
                    self.assertFalse(any(told[:number]))
                self.assertEqual(other_told, kept)
                self.assertEqual(self.ask(floor, goals), kept)
