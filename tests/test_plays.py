import copy
import unittest
from fractions import Fraction
from math import lcm
from random import Random

from chanceduel.errors import DuelError, NoPlan
from chanceduel.floors import Floor
from chanceduel.mending import worths
from chanceduel.plans import worths_of
from chanceduel.plays import brought, mean_of, played
from helper import (
    HALF, LEAST_FINEST_PAY, MOST_PAY, NOUGHT, ONE, all_floors, any_chances, any_floors, any_pay, any_plan,
    assert_plans_refused, doors_of_hand, doors_show, example, floors_for_plans, hand_floors, hand_ring, is_table,
    plain, plans_at_fault, small_floors, to, with_more)

TWO = (2, 1)
# Chance's doors take the remainders 0 to 2, 3 and 4, and 5; the ends tell which door was taken.
SIX = [("chance", [(1, NOUGHT, HALF), (2, NOUGHT, (1, 3)), (3, NOUGHT, (1, 6))])] + [
    ("end", (place, 1)) for place in (1, 2, 3)]


def bounds_of(doors):
    """The common bottom of chance's doors, and for each door the first remainder that it takes and the last one."""
    bottom = lcm(*[door[2][1] for door in doors])
    told = []
    low = 0
    for door in doors:
        high = low + Fraction(*door[2]) * bottom
        told.append((low, int(high) - 1))
        low = int(high)
    return bottom, told


def door_of(row, pick):
    if row[0] != "chance":
        return pick % len(row[1])
    bottom, bounds = bounds_of(row[1])
    return next(door for door, (low, high) in enumerate(bounds) if low <= pick % bottom <= high)


def play_of(rows, place, picks):
    """The play by the point's own words: its steps and its last place."""
    steps = []
    for pick in picks:
        if rows[place][0] != "end":
            steps.append((place, door_of(rows[place], pick)))
            place = rows[place][1][steps[-1][1]][0]
    return steps, place


def gathered_of(share, rows, steps, last):
    whole = sum((Fraction(*rows[place][1][door][1]) * Fraction(*share) ** number
                 for number, (place, door) in enumerate(steps)), Fraction(0))
    if rows[last][0] == "end":
        whole += Fraction(*rows[last][1]) * Fraction(*share) ** len(steps)
    return whole


def any_picks(source, many):
    return [source.choice([source.randrange(-9, 10), source.randrange(-10 ** 7, 10 ** 7), 10 ** 60 - 1, -10 ** 900 + 7])
            for _ in range(many)]


def any_table(source, rows):
    return [any_pay(source) for _ in rows]


def plays_by_lot(seed, many_floors):
    """Plays of floors of all sorts, as tuples (share, rows, place, picks)."""
    source = Random(seed)
    told = []
    for share, rows in floors_for_plans() + any_floors(seed, many_floors):
        for many in (0, 1, 2, source.randrange(3, 30)):
            told.append((share, rows, source.randrange(len(rows)), any_picks(source, many)))
    return told


class Played(unittest.TestCase):
    def test_by_hand(self):
        floor = Floor(*example())
        self.assertEqual(played(floor, 0, [0, 1, 7, 7]), ([(0, 0), (1, 1)], 2, (47, 12)))
        self.assertEqual(played(floor, 0, [0, 0, 2]), ([(0, 0), (1, 0), (0, 0)], 1, (17, 4)))
        self.assertEqual(played(floor, 0, [-1]), ([(0, 1)], 2, (5, 2)))

    def test_no_picks(self):
        for share, rows in all_floors():
            for place, row in enumerate(rows):
                told = played(Floor(share, rows), place, [])
                self.assertEqual(told, ([], place, row[1] if row[0] == "end" else NOUGHT))

    def test_from_an_end(self):
        for share in (NOUGHT, HALF, (999, 1000)):
            floor = Floor(share, [("end", (-7, 3)), ("end", ONE)])
            for picks in ([], [0], [1, -1, 10 ** 60], [5] * 100):
                self.assertEqual(played(floor, 0, picks), ([], 0, (-7, 3)))
                self.assertEqual(played(floor, 1, picks), ([], 1, ONE))

    def test_that_come_to_an_end_early(self):
        rows = [("one", [(1, TWO)]), ("other", [(2, ONE), (0, ONE)]), ("end", (8, 1))]
        for more in ([], [0], [1, 1, 1], [-3] * 98):
            told = played(Floor(HALF, rows), 0, [0, 0] + more)
            self.assertEqual(told, ([(0, 0), (1, 0)], 2, (9, 2)))

    def test_the_last_pick_comes_to_the_end(self):
        rows = [("one", [(0, ONE), (1, ONE)]), ("end", (16, 1))]
        self.assertEqual(played(Floor(HALF, rows), 0, [0, 0, 0]), ([(0, 0)] * 3, 0, (7, 4)))
        self.assertEqual(played(Floor(HALF, rows), 0, [0, 0, 1]), ([(0, 0), (0, 0), (0, 1)], 1, (15, 4)))

    def test_a_hands_doors_by_remainders(self):
        for hand in ("one", "other"):
            for many in range(1, 7):
                ends = [("end", (place, 1)) for place in range(many)]
                floor = Floor(HALF, ends + [(hand, to(*range(many)))])
                for pick in list(range(-20, 21)) + [10 ** 60, -10 ** 60, 10 ** 900 + 1, -10 ** 900 - 1]:
                    door = pick - many * (pick // many)
                    told = played(floor, many, [pick])
                    self.assertEqual(told[:2], ([(many, door)], door))

    def test_chances_doors_by_remainders(self):
        floor = Floor(HALF, SIX)
        for pick, door in list(enumerate([0, 0, 0, 1, 1, 2])):
            for more in (0, 6, -6, -12, 6 * 10 ** 59, -6 * 10 ** 900):
                self.assertEqual(played(floor, 0, [pick + more])[:2], ([(0, door)], door + 1))

    def test_chances_with_a_common_bottom_that_none_has(self):
        doors = [(1, NOUGHT, (1, 6)), (2, NOUGHT, (1, 10)), (3, NOUGHT, (1, 15)), (4, NOUGHT, (2, 3))]
        floor = Floor(HALF, [("chance", doors)] + [("end", ONE)] * 4)
        doors_taken = [0] * 5 + [1] * 3 + [2] * 2 + [3] * 20
        self.assertEqual([played(floor, 0, [pick])[0][0][1] for pick in range(-30, 60)], doors_taken * 3)

    def test_each_boundary(self):
        for share, rows in all_floors():
            floor = Floor(share, rows)
            for place, row in enumerate(rows):
                bottom, bounds = bounds_of(row[1]) if row[0] == "chance" else (1, [])
                for door, (low, high) in enumerate(bounds):
                    for pick in (low, high, low + bottom, high - bottom, low - 10 ** 40 * bottom):
                        with self.subTest(row=row, pick=pick):
                            told = played(floor, place, [pick])
                            self.assertEqual(told[:2], ([(place, door)], row[1][door][0]))

    def test_a_share_of_nought(self):
        rows = [("one", [(0, (3, 2)), (1, TWO)]), ("end", (5, 1))]
        floor = Floor(NOUGHT, rows)
        self.assertEqual(played(floor, 0, [0, 0, 0])[2], (3, 2))
        self.assertEqual(played(floor, 0, [0, 1])[2], (3, 2))
        self.assertEqual(played(floor, 0, [1, 0])[2], TWO)
        self.assertEqual(played(floor, 0, [])[2], NOUGHT)
        self.assertEqual(played(floor, 1, [])[2], (5, 1))
        self.assertEqual(played(floor, 1, [1])[2], (5, 1))

    def test_a_hundred_picks(self):
        source = Random(80)
        floors = [(HALF, hand_ring(12)), ((999, 1000), hand_ring(11)), (NOUGHT, hand_ring(7))] + hand_floors(81, 6)
        floors.append(((998, 999), [("chance", [(0, MOST_PAY, HALF), (0, LEAST_FINEST_PAY, HALF)])]))
        for share, rows in floors:
            for picks in ([0] * 100, [-1] * 100, any_picks(source, 100)):
                told = played(Floor(share, rows), 0, picks)
                steps, last = play_of(rows, 0, picks)
                self.assertEqual(len(steps), 100)
                self.assertEqual(told, (steps, last, plain(gathered_of(share, rows, steps, last))))

    def test_against_the_words(self):
        ended = []
        for share, rows, place, picks in plays_by_lot(82, 60):
            told = played(Floor(share, rows), place, picks)
            steps, last = play_of(rows, place, picks)
            with self.subTest(share=share, rows=rows, place=place, picks=picks):
                self.assertEqual(told, (steps, last, plain(gathered_of(share, rows, steps, last))))
                self.assertEqual([type(part) for part in told], [list, int, tuple])
                self.assertIs(type(told), tuple)
                self.assertTrue(is_table([told[2]], 1))
                for step in told[0]:
                    self.assertEqual([type(step)] + [type(part) for part in step], [tuple, int, int])
            ended.append(rows[last][0] == "end")
        self.assertGreater(min(ended.count(True), ended.count(False)), 100)


class Brought(unittest.TestCase):
    def test_by_hand(self):
        floor = Floor(*example())
        table = [(10, 1), (4, 1), (-7, 3)]
        self.assertEqual(brought(floor, table, 0, 0), (-5, 1))
        self.assertEqual(brought(floor, table, 0, 1), (-67, 6))
        self.assertEqual(brought(floor, table, 1, 0), TWO)
        self.assertEqual(brought(floor, table, 1, 1), (-35, 6))

    def test_each_door(self):
        source = Random(83)
        for share, rows in floors_for_plans():
            table = any_table(source, rows)
            for place, row in enumerate(rows):
                for door, shown in enumerate(doors_show(share, row, table)):
                    told = brought(Floor(share, rows), table, place, door)
                    self.assertEqual(told, plain(shown - Fraction(*table[place])))

    def sum_brought(self, share, rows, table, steps):
        floor = Floor(share, rows)
        return sum((Fraction(*brought(floor, table, place, door)) * Fraction(*share) ** number
                    for number, (place, door) in enumerate(steps)), Fraction(0))

    def test_the_sum_over_a_play(self):
        source = Random(84)
        ended = 0
        for share, rows, place, picks in plays_by_lot(85, 40):
            steps, last, gathered = played(Floor(share, rows), place, picks)
            table = any_table(source, rows)
            left = Fraction(*share) ** len(steps) * Fraction(*table[last])
            if rows[last][0] == "end":
                ended += 1
                table = [row[1] if row[0] == "end" else number for row, number in zip(rows, table)]
                left = 0
            whole = Fraction(*table[place]) + self.sum_brought(share, rows, table, steps)
            with self.subTest(share=share, rows=rows, place=place, picks=picks):
                self.assertEqual(Fraction(*gathered) + left, whole)
        self.assertGreater(ended, 100)

    def test_by_the_floors_worths(self):
        for share, rows in floors_for_plans():
            floor = Floor(share, rows)
            table = worths(floor)
            for place, row in enumerate(rows):
                doors = [] if row[0] == "end" else row[1]
                told = [Fraction(*brought(floor, table, place, door)) for door in range(len(doors))]
                with self.subTest(share=share, rows=rows, place=place):
                    if row[0] == "one":
                        self.assertEqual(max(told), 0)
                    elif row[0] == "other":
                        self.assertEqual(min(told), 0)
                    elif row[0] == "chance":
                        self.assertEqual(sum(Fraction(*door[2]) * one for door, one in zip(doors, told)), 0)


def all_plays(rows, doors, place, turns):
    """All plays of so many turns, or fewer to an end, as tuples (chance, steps, last)."""
    told = [(Fraction(1), [], place)]
    for _ in range(turns):
        longer = []
        for chance, steps, last in told:
            kind, ways = rows[last]
            if kind == "end":
                longer.append((chance, steps, last))
                continue
            for door in range(len(ways)) if kind == "chance" else [doors[last]]:
                part = Fraction(*ways[door][2]) if kind == "chance" else 1
                longer.append((chance * part, steps + [(last, door)], ways[door][0]))
        told = longer
    return told


def mean_by_plays(share, rows, doors, place, turns):
    plays = all_plays(rows, doors, place, turns)
    mean = sum(chance * gathered_of(share, rows, steps, last) for chance, steps, last in plays)
    chances = [sum((chance for chance, _, last in plays if last == here), Fraction(0)) for here in range(len(rows))]
    return plain(mean), [plain(chance) for chance in chances]


def two_doors(seed, many):
    """Floors with at most two doors a place, so that all plays of twelve turns can be looked at."""
    source = Random(seed)
    told = []
    for number in range(many):
        size = 2 + number % 5
        rows = []
        for kind in source.choices(["one", "other", "chance", "chance", "end"], k=size):
            doors = [(source.randrange(size), source.choice([NOUGHT, ONE, (-5, 2), (7, 3)])) for _ in range(2)]
            if kind == "chance":
                doors = [door + (chance,) for door, chance in zip(doors, any_chances(source, 2))]
            rows.append((kind, (source.randrange(-4, 5), 1) if kind == "end" else doors))
        told.append((source.choice([NOUGHT, HALF, (2, 3), (999, 1000)]), rows))
    return told


class Means(unittest.TestCase):
    def test_by_hand(self):
        floor = Floor(*example())
        self.assertEqual(mean_of(floor, {0: 0}, {}, 0, 0), (NOUGHT, [ONE, NOUGHT, NOUGHT]))
        self.assertEqual(mean_of(floor, {0: 0}, {}, 0, 1), ((3, 1), [NOUGHT, ONE, NOUGHT]))
        self.assertEqual(mean_of(floor, {0: 0}, {}, 0, 2), ((89, 24), [HALF, NOUGHT, HALF]))
        self.assertEqual(mean_of(floor, {0: 0}, {}, 0, 3), ((49, 12), [NOUGHT, HALF, HALF]))
        self.assertEqual(mean_of(floor, {0: 1}, {}, 0, 1), ((5, 2), [NOUGHT, NOUGHT, ONE]))
        self.assertEqual(mean_of(floor, {0: 1}, {}, 0, 12), ((5, 2), [NOUGHT, NOUGHT, ONE]))

    def test_an_end(self):
        for share in (NOUGHT, HALF, (999, 1000)):
            floor = Floor(share, [("end", ONE), ("end", (-7, 3)), ("one", to(0))])
            for turns in range(13):
                self.assertEqual(mean_of(floor, {2: 0}, {}, 1, turns), ((-7, 3), [NOUGHT, ONE, NOUGHT]))

    def test_no_turns(self):
        for share, rows in all_floors():
            plans = [{place: 0 for place in doors_of_hand(rows, hand)} for hand in ("one", "other")]
            for place, row in enumerate(rows):
                chances = [ONE if here == place else NOUGHT for here in range(len(rows))]
                told = mean_of(Floor(share, rows), *plans, place, 0)
                self.assertEqual(told, (row[1] if row[0] == "end" else NOUGHT, chances))

    def test_the_sum_over_all_plays(self):
        many = 0
        for number, (share, rows) in enumerate(two_doors(86, 30)):
            source = Random(number)
            plan_one, plan_other = [any_plan(source, rows, hand) for hand in ("one", "other")]
            doors = {**plan_one, **plan_other}
            place = source.randrange(len(rows))
            for turns in range(13):
                with self.subTest(share=share, rows=rows, turns=turns):
                    told = mean_of(Floor(share, rows), plan_one, plan_other, place, turns)
                    self.assertEqual(told, mean_by_plays(share, rows, doors, place, turns))
            many += len(all_plays(rows, doors, place, 12)) > 30
        self.assertGreater(many, 8)

    def test_the_sum_over_all_plays_with_many_doors(self):
        for number, (share, rows) in enumerate(all_floors() + any_floors(87, 60)):
            source = Random(number)
            plan_one, plan_other = [any_plan(source, rows, hand) for hand in ("one", "other")]
            for place in range(len(rows)):
                for turns in range(4):
                    with self.subTest(share=share, rows=rows, turns=turns):
                        told = mean_of(Floor(share, rows), plan_one, plan_other, place, turns)
                        self.assertEqual(told, mean_by_plays(share, rows, {**plan_one, **plan_other}, place, turns))

    def test_with_the_worths(self):
        for number, (share, rows) in enumerate(floors_for_plans()):
            source = Random(number)
            floor = Floor(share, rows)
            plan_one, plan_other = [any_plan(source, rows, hand) for hand in ("one", "other")]
            table = [Fraction(*worth) for worth in worths_of(floor, plan_one, plan_other)]
            for turns in (0, 1, source.randrange(2, 12), 12):
                place = source.randrange(len(rows))
                told = mean_of(floor, plan_one, plan_other, place, turns)
                with self.subTest(share=share, rows=rows, place=place, turns=turns):
                    self.assertEqual([type(told), type(told[0])], [tuple, tuple])
                    self.assertTrue(is_table([told[0]], 1))
                    self.assertTrue(is_table(told[1], len(rows)))
                    chances = [Fraction(*chance) for chance in told[1]]
                    self.assertEqual(sum(chances), 1)
                    self.assertGreaterEqual(min(chances), 0)
                    left = Fraction(*share) ** turns
                    away = sum(chance * worth for chance, worth, row in zip(chances, table, rows) if row[0] != "end")
                    self.assertEqual(table[place], Fraction(*told[0]) + left * away)
                    bound = left * max(abs(worth) for worth in table)
                    self.assertLessEqual(abs(table[place] - Fraction(*told[0])), bound)

    def test_what_else_is_in_a_plan(self):
        for number, (share, rows) in enumerate(all_floors()):
            source = Random(number)
            floor = Floor(share, rows)
            plans = [any_plan(source, rows, hand) for hand in ("one", "other")]
            more = [with_more(plan, rows, hand) for plan, hand in zip(plans, ("one", "other"))]
            place = source.randrange(len(rows))
            for turns in (0, 1, 5):
                self.assertEqual(mean_of(floor, *more, place, turns), mean_of(floor, *plans, place, turns))

    def test_refused_plans(self):
        def ask(floor, hand, plan):
            whole = {place: 0 for place in range(floor.size())}
            plans = (plan, whole) if hand == "one" else (whole, plan)
            for turns in (0, 3, 12):
                with self.assertRaises(NoPlan):
                    mean_of(floor, *plans, 0, turns)
            return mean_of(floor, *plans, floor.size() - 1, 1)

        assert_plans_refused(self, small_floors(88, 40) + [(HALF, hand_ring(12))], ask)

    def test_the_least_place_of_both_plans(self):
        for share, rows in small_floors(89, 60) + [(HALF, hand_ring(6))]:
            floor = Floor(share, rows)
            faults = [plans_at_fault(rows, hand)[:12] for hand in ("one", "other")]
            for place_one, plan_one in faults[0]:
                for place_other, plan_other in faults[1]:
                    with self.assertRaises(NoPlan) as taken:
                        mean_of(floor, plan_one, plan_other, 0, 0)
                    self.assertEqual(taken.exception.place, min(place_one, place_other))
                    self.assertEqual(type(taken.exception).__bases__, (DuelError,))


class NothingChanges(unittest.TestCase):
    def test_plays(self):
        for share, rows, place, picks in plays_by_lot(90, 20):
            floor = Floor(share, rows)
            kept_picks = list(picks)
            told = played(floor, place, picks)
            kept = copy.deepcopy(told)
            other_told = played(floor, place, picks)
            self.assertEqual(picks, kept_picks)
            self.assertEqual((floor.share(), floor.rows()), (share, rows))
            picks.append(1)
            self.assertEqual(told, kept)
            told[0].clear()
            self.assertEqual(other_told, kept)
            self.assertEqual(played(floor, place, kept_picks), kept)

    def test_what_steps_bring(self):
        source = Random(91)
        for share, rows in all_floors():
            floor = Floor(share, rows)
            table = any_table(source, rows)
            kept = list(table)
            for place, row in enumerate(rows):
                if row[0] != "end":
                    told = brought(floor, table, place, 0)
                    self.assertEqual(brought(floor, table, place, 0), told)
            self.assertEqual(table, kept)
            self.assertEqual((floor.share(), floor.rows()), (share, rows))

    def test_means(self):
        for number, (share, rows) in enumerate(all_floors()):
            source = Random(number)
            floor = Floor(share, rows)
            plans = [with_more(any_plan(source, rows, hand), rows, hand) for hand in ("one", "other")]
            kept_plans = [list(plan.items()) for plan in plans]
            place = source.randrange(len(rows))
            for turns in (0, 1, 4):
                told = mean_of(floor, *plans, place, turns)
                kept = copy.deepcopy(told)
                other_told = mean_of(floor, *plans, place, turns)
                self.assertEqual([list(plan.items()) for plan in plans], kept_plans)
                self.assertEqual((floor.share(), floor.rows()), (share, rows))
                told[1].clear()
                self.assertEqual(other_told, kept)
                self.assertEqual(mean_of(floor, *plans, place, turns), kept)


if __name__ == "__main__":
    unittest.main()
