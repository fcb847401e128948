import copy
import unittest
from itertools import combinations
from random import Random

from chanceduel.errors import DuelError, NoGoal
from chanceduel.floors import Floor
from chanceduel.shuts import draw
from helper import NOUGHT, ONE, all_floors, all_plans, any_floors, floors_for_plans, hand_ring, small_floors

HALF = (1, 2)


def to(*places):
    return [(place, NOUGHT) for place in places]


def chance_to(*places):
    return [(place, NOUGHT, (1, len(places))) for place in places]


def ends_of(rows):
    return [place for place, row in enumerate(rows) if row[0] == "end"]


def all_goals(rows):
    ends = ends_of(rows)
    return [list(goals) for many in range(len(ends) + 1) for goals in combinations(ends, many)]


def leads_below(row, steps, bound):
    """Whether some door, or every one at the other's place, leads to a place with fewer steps than the bound."""
    below = [steps[door[0]] is not None and steps[door[0]] < bound for door in row[1]]
    return all(below) if row[0] == "other" else any(below)


def reached_from(rows, place, plan_other):
    """All places to which the one and chance may bring the piece against a plan of the other."""
    seen = [place]
    for here in seen:
        row = rows[here]
        doors = [] if row[0] == "end" else row[1] if row[0] != "other" else [row[1][plan_other[here]]]
        seen += [door for door in dict.fromkeys(door[0] for door in doors) if door not in seen]
    return seen


class Case(unittest.TestCase):
    def assert_draw(self, rows, goals, told):
        self.assertIs(type(told), tuple)
        shut, steps = told
        self.assertEqual((type(shut), type(steps)), (list, list))
        self.assertEqual(len(steps), len(rows))
        self.assertEqual(shut, [place for place in range(len(rows)) if steps[place] is None])
        for place, row in enumerate(rows):
            step = steps[place]
            if place in goals:
                self.assertEqual(step, 0)
            elif row[0] == "end":
                self.assertIsNone(step)
            elif step is None:
                self.assertFalse(leads_below(row, steps, len(rows) + 1))
            else:
                self.assertIs(type(step), int)
                self.assertGreaterEqual(step, 1)
                self.assertTrue(leads_below(row, steps, step))
                self.assertFalse(leads_below(row, steps, step - 1))


class Draws(Case):
    def test_by_hand(self):
        floor = Floor(HALF, [
            ("one", to(1, 5)), ("other", to(2, 3)), ("chance", chance_to(4, 5)), ("one", to(2, 0)),
            ("end", ONE), ("end", NOUGHT), ("other", to(1, 5)), ("one", to(6, 7))])
        self.assertEqual(draw(floor, [4]), ([5, 6, 7], [4, 3, 1, 2, 0, None, None, None]))
        self.assertEqual(draw(floor, [5]), ([4], [1, 3, 1, 2, None, 0, 4, 5]))
        self.assertEqual(draw(floor, [4, 5]), ([], [1, 3, 1, 2, 0, 0, 4, 5]))
        self.assertEqual(draw(floor, []), (list(range(8)), [None] * 8))

    def test_each_kind_beside_a_goal_and_a_lost_end(self):
        ends = [("end", ONE), ("end", ONE)]
        for row, step in (
                (("one", to(0, 1)), 1), (("other", to(0, 1)), None), (("chance", chance_to(0, 1)), 1),
                (("one", to(1)), None), (("other", to(1)), None), (("chance", chance_to(1)), None),
                (("one", to(0)), 1), (("other", to(0, 0)), 1), (("chance", chance_to(0)), 1),
                (("one", to(2, 0)), 1), (("other", to(2, 0)), None), (("chance", chance_to(2, 0)), 1),
                (("one", to(2)), None), (("other", to(2)), None), (("chance", chance_to(2)), None)):
            with self.subTest(row=row):
                shut = [1, 2] if step is None else [1]
                self.assertEqual(draw(Floor(HALF, ends + [row]), [0]), (shut, [0, None, step]))

    def test_a_ring_of_the_others_places(self):
        rows = [("other", to(1, 3)), ("other", to(2, 3)), ("other", to(0, 3)), ("end", ONE)]
        self.assertEqual(draw(Floor(HALF, rows), [3]), ([0, 1, 2], [None, None, None, 0]))
        rows[1] = ("other", to(3, 3))
        self.assertEqual(draw(Floor(HALF, rows), [3]), ([], [2, 1, 3, 0]))

    def test_a_ring_of_the_ones_or_chances_places(self):
        for kind, lead in (("one", to), ("chance", chance_to)):
            rows = [(kind, lead(1)), (kind, lead(2)), (kind, lead(0)), ("end", ONE)]
            self.assertEqual(draw(Floor(HALF, rows), [3]), ([0, 1, 2], [None, None, None, 0]))
            rows[1] = (kind, lead(2, 3))
            self.assertEqual(draw(Floor(HALF, rows), [3]), ([], [2, 1, 3, 0]))

    def test_a_row_of_twelve(self):
        for kind, lead in (("one", to), ("other", to), ("chance", chance_to)):
            up = [(kind, lead(place + 1)) for place in range(11)] + [("end", ONE)]
            self.assertEqual(draw(Floor(HALF, up), [11]), ([], list(range(11, -1, -1))))
            down = [("end", ONE)] + [(kind, lead(place)) for place in range(11)]
            self.assertEqual(draw(Floor(HALF, down), [0]), ([], list(range(12))))

    def test_no_goals(self):
        for share, rows in floors_for_plans():
            self.assertEqual(draw(Floor(share, rows), []), (list(range(len(rows))), [None] * len(rows)))

    def test_ends_alone(self):
        floor = Floor(NOUGHT, [("end", ONE)] * 12)
        self.assertEqual(draw(floor, list(range(12))), ([], [0] * 12))
        self.assertEqual(draw(floor, [2, 11]), ([0, 1, 3, 4, 5, 6, 7, 8, 9, 10], [None, None, 0] + [None] * 8 + [0]))

    def test_pays_and_the_share_do_not_count(self):
        for share, rows in all_floors():
            bare = [(row[0], NOUGHT if row[0] == "end" else [(door[0], NOUGHT) + door[2:] for door in row[1]])
                    for row in rows]
            for goals in all_goals(rows)[:8]:
                self.assertEqual(draw(Floor(share, rows), goals), draw(Floor(NOUGHT, bare), goals))

    def test_against_the_words(self):
        for share, rows in floors_for_plans() + any_floors(50, 100) + small_floors(51, 100):
            floor = Floor(share, rows)
            for goals in all_goals(rows)[:16] + [ends_of(rows)]:
                with self.subTest(rows=rows, goals=goals):
                    self.assert_draw(rows, goals, draw(floor, goals))

    def test_from_shut_places_the_other_keeps_away(self):
        for share, rows in small_floors(52, 80):
            plans = all_plans(rows, "other")
            for goals in all_goals(rows):
                shut = draw(Floor(share, rows), goals)[0]
                for place in range(len(rows)):
                    kept_away = any(not set(goals) & set(reached_from(rows, place, plan)) for plan in plans)
                    with self.subTest(rows=rows, goals=goals, place=place):
                        self.assertEqual(place in shut, kept_away)


class RefusedGoals(unittest.TestCase):
    ROWS = [("end", ONE), ("one", to(0)), ("end", ONE), ("end", NOUGHT), ("other", to(2)), ("chance", chance_to(3, 0)),
            ("end", ONE)]

    def assert_no_goal(self, place, goals):
        kept = list(goals)
        with self.subTest(goals=goals):
            with self.assertRaises(NoGoal) as taken:
                draw(Floor(HALF, self.ROWS), goals)
            self.assertEqual(taken.exception.place, place)
            self.assertEqual(type(taken.exception).__bases__, (DuelError,))
            self.assertEqual(goals, kept)

    def test_no_ends(self):
        for place in (1, 4, 5):
            self.assert_no_goal(place, [place])
            self.assert_no_goal(place, [0, place])
            self.assert_no_goal(place, [place, 6])

    def test_off_the_floor(self):
        for place in (-1, -2, -5, -6, -7, -8, -10 ** 40, 7, 8, 12, 10 ** 40, 10 ** 900, -10 ** 900):
            self.assert_no_goal(place, [place])
            self.assert_no_goal(place, [0, 2, place])
            self.assert_no_goal(place, [place, 0])
            self.assert_no_goal(place, [0, place, 6])

    def test_not_rising(self):
        self.assert_no_goal(0, [2, 0])
        self.assert_no_goal(2, [0, 3, 2])
        self.assert_no_goal(3, [0, 2, 6, 3])
        self.assert_no_goal(0, [3, 0, 6, 2])

    def test_twice_the_same(self):
        for place in (0, 2, 3, 6):
            self.assert_no_goal(place, [place, place])
        self.assert_no_goal(2, [0, 2, 2, 3])
        self.assert_no_goal(6, [0, 2, 3, 6, 6])

    def test_the_first_of_several(self):
        self.assert_no_goal(4, [0, 4, 2, 2, 99])
        self.assert_no_goal(2, [0, 3, 2, 99, 1])
        self.assert_no_goal(99, [0, 99, 3, 3, -1])
        self.assert_no_goal(-1, [0, -1, 99])
        self.assert_no_goal(5, [5, 4, 1])
        self.assert_no_goal(0, [2, 0, 0, 1])

    def test_any_lists_by_lot(self):
        source = Random(53)
        refused = 0
        for _ in range(2000):
            goals = [source.randrange(-2, 9) for _ in range(source.randrange(5))]
            wrong = [goal for number, goal in enumerate(goals)
                     if goal not in (0, 2, 3, 6) or number > 0 and goal <= goals[number - 1]]
            if wrong:
                refused = refused + 1
                self.assert_no_goal(wrong[0], goals)
            else:
                draw(Floor(HALF, self.ROWS), goals)
        self.assertGreater(refused, 1000)
        self.assertLess(refused, 2000)

    def test_without_any_end(self):
        for goals in ([0], [-1], [11], [12], [3, 3]):
            with self.assertRaises(NoGoal) as taken:
                draw(Floor(HALF, hand_ring(12)), goals)
            self.assertEqual(taken.exception.place, goals[0])


class NothingChanges(Case):
    def test_what_was_handed_in_stays(self):
        for share, rows in all_floors():
            floor = Floor(share, rows)
            goals = ends_of(rows)
            kept = list(goals)
            told = draw(floor, goals)
            kept_told = copy.deepcopy(told)
            self.assertEqual(goals, kept)
            self.assertEqual((floor.share(), floor.rows()), (share, rows))
            goals.append(99)
            self.assertEqual(told, kept_told)

    def test_what_was_told_is_changed(self):
        for share, rows in all_floors():
            floor = Floor(share, rows)
            for goals in (ends_of(rows), ends_of(rows)[:1], []):
                told = draw(floor, goals)
                kept = copy.deepcopy(told)
                other_told = draw(floor, goals)
                told[0].append("more")
                self.assertEqual(told[1], kept[1])
                told[1].clear()
                self.assertEqual(told[0], kept[0] + ["more"])
                self.assertEqual(other_told, kept)
                self.assertEqual(draw(floor, goals), kept)


if __name__ == "__main__":
    unittest.main()
