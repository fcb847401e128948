import unittest
from fractions import Fraction
from random import Random

from chanceduel.floors import Floor
from chanceduel.reach import chances
from helper import (
    HALF, NOUGHT, ONE, GoalCases, all_floors, all_goals, all_plans, any_chances, any_pay, bare, chance_to, ends_of,
    floors_for_plans, is_plan, is_table, leads_below, plain, small_floors, to)

# The one's places 0 and 1 lead to one another, and both to chance, which has the goal 3 and the lost end 4.
RING = [("one", to(1, 2)), ("one", to(0, 2)), ("chance", chance_to(3, 4)), ("end", ONE), ("end", ONE)]


def shut_places(rows, goals):
    """The greatest set of places without goals in which the other can keep the piece."""
    shut = set(range(len(rows))) - set(goals)
    while True:
        left = set()
        for place in shut:
            inside = [] if rows[place][0] == "end" else [door[0] in shut for door in rows[place][1]]
            if any(inside) if rows[place][0] == "other" else all(inside):
                left.add(place)
        if left == shut:
            return sorted(shut)
        shut = left


def solved(rows):
    """The one answer of as many rows as unknowns, by Python's own fractions."""
    left = [[Fraction(number) for number in row] for row in rows]
    for at in range(len(left)):
        head = next(number for number in range(at, len(left)) if left[number][at] != 0)
        left[at], left[head] = left[head], left[at]
        left[at] = [number / left[at][at] for number in left[at]]
        for number, row in enumerate(left):
            if number != at:
                left[number] = [one - row[at] * other for one, other in zip(row, left[at])]
    return [row[-1] for row in left]


def ways_of(row, door):
    if row[0] == "end":
        return []
    return [(one[0], Fraction(*one[2])) for one in row[1]] if row[0] == "chance" else [(row[1][door][0], Fraction(1))]


def brings(rows, goals, doors):
    """From each place the chance to come to a goal where both hands have their doors."""
    ways = [ways_of(row, doors.get(place)) for place, row in enumerate(rows)]
    able = set(goals)
    for _ in rows:
        able |= {place for place in range(len(rows)) if any(way[0] in able for way in ways[place])}
    told = []
    for place in range(len(rows)):
        row = [Fraction(here == place) for here in range(len(rows))] + [Fraction(place in goals)]
        for where, chance in ways[place] if place in able and place not in goals else []:
            row[where] -= chance
        told.append(row)
    return solved(told)


def goal_row(source, size, most_doors):
    kind = source.choice(["one", "one", "other", "chance", "chance"])
    many = source.choice([many for many in (1, 2, 2, 3, 3, 4, 6) if many <= most_doors])
    doors = [(source.randrange(size), any_pay(source)) for _ in range(many)]
    if kind == "chance":
        doors = [door + (chance,) for door, chance in zip(doors, any_chances(source, len(doors)))]
    return (kind, doors)


def goal_floors(seed, many, least_size=1, most_size=12, most_doors=6):
    """Floors with one to three ends, with rings of places and many doors to places of the same number."""
    source = Random(seed)
    told = []
    for number in range(many):
        size = least_size + number % (most_size - least_size + 1)
        rows = [goal_row(source, size, most_doors) for _ in range(size)]
        for place in source.sample(range(size), min(size, 1 + number % 3)):
            rows[place] = ("end", any_pay(source))
        told.append((source.choice([NOUGHT, HALF, (999, 1000)]), rows))
    return told


def little_floors(seed, many):
    """Such floors with so few places and doors that all plans can be looked at."""
    return goal_floors(seed, many, 4, 7, 3)


def some_goals(rows):
    return all_goals(rows)[:8] + [ends_of(rows)]


class Case(unittest.TestCase):
    def assert_kinds(self, rows, told):
        self.assertIs(type(told), tuple)
        table, plan_one, plan_other, steps = told
        self.assertTrue(is_table(table, len(rows)))
        self.assertTrue(is_plan(plan_one, rows, "one"))
        self.assertTrue(is_plan(plan_other, rows, "other"))
        self.assertIs(type(steps), list)
        self.assertEqual(len(steps), len(rows))

    def assert_table(self, rows, goals, table):
        shut = shut_places(rows, goals)
        numbers = [Fraction(*one) for one in table]
        for place, row in enumerate(rows):
            self.assertEqual(numbers[place] == 0, place in shut)
            self.assertTrue(0 <= numbers[place] <= 1)
            if place in goals:
                self.assertEqual(numbers[place], 1)
            if row[0] == "end":
                continue
            led = [numbers[door[0]] for door in row[1]]
            if row[0] == "chance":
                self.assertEqual(numbers[place], sum(Fraction(*door[2]) * one for door, one in zip(row[1], led)))
            else:
                self.assertEqual(numbers[place], (max if row[0] == "one" else min)(led))

    def assert_steps(self, rows, goals, plan_one, steps):
        shut = shut_places(rows, goals)
        for place, row in enumerate(rows):
            if place in goals:
                self.assertEqual(steps[place], 0)
            elif place in shut:
                self.assertIsNone(steps[place])
            else:
                self.assertIs(type(steps[place]), int)
                self.assertTrue(1 <= steps[place] <= len(rows))
                held = (row[0], [row[1][plan_one[place]]]) if row[0] == "one" else row
                self.assertTrue(leads_below(held, steps, steps[place]))

    def assert_chances(self, rows, goals, told):
        self.assert_kinds(rows, told)
        table, plan_one, plan_other, steps = told
        self.assert_table(rows, goals, table)
        for place, door in {**plan_one, **plan_other}.items():
            self.assertEqual(table[rows[place][1][door][0]], table[place])
        self.assert_steps(rows, goals, plan_one, steps)


class Chances(Case):
    def test_by_hand(self):
        rows = [
            ("one", to(1, 2)), ("chance", chance_to(3, 4, 4)), ("other", to(1, 5)), ("end", ONE), ("end", NOUGHT),
            ("chance", chance_to(3, 4))]
        told = chances(Floor(HALF, rows), [3])
        self.assertEqual(told[0], [(1, 3), (1, 3), (1, 3), ONE, NOUGHT, HALF])
        self.assertEqual(told[2], {2: 0})
        self.assertEqual(chances(Floor(HALF, rows), [4])[0], [(2, 3), (2, 3), HALF, NOUGHT, ONE, HALF])
        self.assertEqual(chances(Floor(HALF, rows), [4])[1:3], ({0: 0}, {2: 1}))
        self.assertEqual(chances(Floor(HALF, rows), [3, 4])[0], [ONE] * 6)
        self.assertEqual(chances(Floor(HALF, rows), [])[0], [NOUGHT] * 6)

    def test_one_place(self):
        floor = Floor(HALF, [("end", (7, 1))])
        self.assertEqual(chances(floor, [0]), ([ONE], {}, {}, [0]))
        self.assertEqual(chances(floor, []), ([NOUGHT], {}, {}, [None]))
        self.assertEqual(chances(Floor(HALF, [("one", to(0))]), []), ([NOUGHT], {0: 0}, {}, [None]))
        self.assertEqual(chances(Floor(HALF, [("other", to(0))]), []), ([NOUGHT], {}, {0: 0}, [None]))
        self.assertEqual(chances(Floor(HALF, [("chance", chance_to(0))]), []), ([NOUGHT], {}, {}, [None]))

    def test_each_kind_beside_a_goal_and_a_lost_end(self):
        ends = [("end", ONE), ("end", ONE)]
        for row, number, step in (
                (("one", to(0, 1)), ONE, 1), (("one", to(1, 0)), ONE, 1), (("one", to(1)), NOUGHT, None),
                (("other", to(0, 1)), NOUGHT, None), (("other", to(0)), ONE, 1), (("one", to(2, 0)), ONE, 1),
                (("other", to(2, 0)), NOUGHT, None), (("chance", chance_to(0, 1)), HALF, 1),
                (("chance", chance_to(0, 2)), ONE, 1), (("chance", chance_to(0, 1, 2)), HALF, 1),
                (("chance", chance_to(1, 2)), NOUGHT, None), (("chance", chance_to(0, 0)), ONE, 1),
                (("chance", [(0, NOUGHT, (1, 10 ** 6)), (1, NOUGHT, (999999, 10 ** 6))]), (1, 10 ** 6), 1),
                (("chance", [(0, NOUGHT, (1, 10 ** 6)), (2, NOUGHT, (999999, 10 ** 6))]), ONE, 1)):
            with self.subTest(row=row):
                told = chances(Floor(HALF, ends + [row]), [0])
                self.assertEqual((told[0], told[3]), ([ONE, NOUGHT, number], [0, None, step]))
                self.assert_chances(ends + [row], [0], told)

    def test_a_ring_that_keeps_the_number_and_never_comes_to_a_goal(self):
        # Told in each order of the doors: a plan that leads round would keep the numbers, too.
        for doors in (to(1, 2), to(2, 1)):
            for other_doors in (to(0, 2), to(2, 0)):
                rows = [("one", doors), ("one", other_doors)] + RING[2:]
                told = chances(Floor(HALF, rows), [3])
                self.assertEqual(told[0], [HALF, HALF, HALF, ONE, NOUGHT])
                self.assertIn(2, [rows[place][1][told[1][place]][0] for place in (0, 1)])
                self.assert_chances(rows, [3], told)

    def test_a_ring_of_both_hands(self):
        # The other can lead back alone, and the one must leave the ring at last.
        rows = [("one", to(1, 2)), ("other", to(0)), ("chance", chance_to(0, 3, 4)), ("end", ONE), ("end", ONE)]
        told = chances(Floor(HALF, rows), [3])
        self.assertEqual(told[0], [HALF, HALF, HALF, ONE, NOUGHT])
        self.assertEqual(told[1:], ({0: 1}, {1: 0}, [2, 3, 1, 0, None]))

    def test_a_ring_in_which_the_other_keeps_the_piece(self):
        rows = [("one", to(1)), ("other", to(0, 2)), ("chance", chance_to(3, 4)), ("end", ONE), ("end", ONE)]
        told = chances(Floor(HALF, rows), [3])
        self.assertEqual(told, ([NOUGHT, NOUGHT, HALF, ONE, NOUGHT], {0: 0}, {1: 0}, [None, None, 1, 0, None]))
        rows[1] = ("other", to(2, 0))
        self.assertEqual(chances(Floor(HALF, rows), [3])[2], {1: 1})

    def test_long_rings(self):
        for kind, lead in (("one", to), ("chance", chance_to)):
            for size in range(2, 12):
                rows = [(kind, lead((place + 1) % size, place)) for place in range(size)] + [("end", ONE)]
                self.assertEqual(chances(Floor(HALF, rows), [size])[0], [NOUGHT] * size + [ONE])
                rows[size // 2] = (kind, lead(0, size))
                told = chances(Floor(HALF, rows), [size])
                self.assertEqual(told[0], [ONE] * (size + 1))
                self.assert_chances(rows, [size], told)

    def test_a_row_of_twelve(self):
        for kind, lead in (("one", to), ("other", to), ("chance", chance_to)):
            rows = [(kind, lead(place + 1)) for place in range(11)] + [("end", ONE)]
            told = chances(Floor(HALF, rows), [11])
            self.assertEqual((told[0], told[3]), ([ONE] * 12, list(range(11, -1, -1))))

    def test_the_nearest_goal_is_not_the_surest(self):
        # By the fewest steps the one would take a chance of one in six; the long way is sure.
        rows = [("one", to(1, 4)), ("chance", chance_to(2, 3, 3, 3, 3, 3)), ("end", ONE), ("end", ONE),
                ("one", to(5, 3)), ("one", to(1, 6)), ("one", to(3, 2))]
        told = chances(Floor(HALF, rows), [2])
        self.assertEqual(told[0], [ONE, (1, 6), ONE, NOUGHT, ONE, ONE, ONE])
        self.assertEqual(told[1:], ({0: 1, 4: 0, 5: 1, 6: 1}, {}, [4, 1, 0, None, 3, 2, 1]))

    def test_against_the_words(self):
        between = 0
        for share, rows in floors_for_plans() + small_floors(60, 60) + goal_floors(61, 240):
            floor = Floor(share, rows)
            for goals in some_goals(rows):
                with self.subTest(rows=rows, goals=goals):
                    told = chances(floor, goals)
                    self.assert_chances(rows, goals, told)
                    between += any(number not in (NOUGHT, ONE) for number in told[0])
        self.assertGreater(between, 200)

    def test_doors_that_keep_the_number_and_lead_farther(self):
        """Floors as those above have places at which not every door of the same number would do."""
        many = 0
        for share, rows in goal_floors(61, 240):
            table, plan_one, _, steps = chances(Floor(share, rows), ends_of(rows))
            for place in plan_one:
                same = [door[0] for door in rows[place][1] if table[door[0]] == table[place]]
                many += table[place] != NOUGHT and any(steps[where] >= steps[place] for where in same)
        self.assertGreater(many, 50)

    def test_no_goals(self):
        for share, rows in floors_for_plans() + goal_floors(62, 24):
            told = chances(Floor(share, rows), [])
            self.assertEqual((told[0], told[3]), ([NOUGHT] * len(rows), [None] * len(rows)))
            self.assert_chances(rows, [], told)

    def test_pays_and_the_share_do_not_count(self):
        for share, rows in all_floors() + goal_floors(63, 60):
            for goals in some_goals(rows):
                self.assertEqual(chances(Floor(share, rows), goals), chances(Floor(NOUGHT, bare(rows)), goals))
                self.assertEqual(chances(Floor(share, rows), goals), chances(Floor((999, 1000), rows), goals))


class EveryPlan(unittest.TestCase):
    def cases(self, floors):
        """Floors and goals with what is told of them; enough of them have numbers between 0 and 1."""
        told = [(rows, goals) + chances(Floor(share, rows), goals)
                for share, rows in floors for goals in all_goals(rows)]
        self.assertGreater(sum(any(number not in (NOUGHT, ONE) for number in one[2]) for one in told), 30)
        return told

    def test_the_ones_plan_brings_at_least_the_told_number(self):
        for rows, goals, table, plan_one, plan_other, _ in self.cases(little_floors(64, 120) + [(HALF, RING)]):
            least = [Fraction(*number) for number in table]
            with self.subTest(rows=rows, goals=goals):
                self.assertEqual(brings(rows, goals, {**plan_one, **plan_other}), least)
                for plan in all_plans(rows, "other"):
                    told = brings(rows, goals, {**plan_one, **plan})
                    self.assertTrue(all(one >= bound for one, bound in zip(told, least)))

    def test_no_plan_brings_more_against_the_others_told_plan(self):
        for rows, goals, table, _, plan_other, _ in self.cases(little_floors(64, 120) + [(HALF, RING)]):
            most = [Fraction(*number) for number in table]
            with self.subTest(rows=rows, goals=goals):
                for plan in all_plans(rows, "one"):
                    told = brings(rows, goals, {**plan, **plan_other})
                    self.assertTrue(all(one <= bound for one, bound in zip(told, most)))

    def test_the_greatest_of_the_least(self):
        for rows, goals, table, _, _, _ in self.cases(little_floors(65, 90)):
            least = [[min(column) for column in zip(*[
                brings(rows, goals, {**one, **other}) for other in all_plans(rows, "other")])]
                for one in all_plans(rows, "one")]
            with self.subTest(rows=rows, goals=goals):
                self.assertEqual(table, [plain(max(column)) for column in zip(*least)])


class Goals(GoalCases, unittest.TestCase):
    def ask(self, floor, goals):
        return chances(floor, goals)

    def floors(self):
        return all_floors() + goal_floors(66, 24)


if __name__ == "__main__":
    unittest.main()
