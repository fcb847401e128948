import unittest

from chanceduel.floors import Floor
from chanceduel.shuts import draw
from helper import (
    HALF, NOUGHT, ONE, GoalCases, all_floors, all_goals, all_plans, any_floors, bare, chance_to, ends_of,
    floors_for_plans, leads_below, small_floors, to)


def reached_from(rows, place, plan_other):
    """All places to which the one and chance may bring the piece against a plan of the other."""
    seen = [place]
    for here in seen:
        row = rows[here]
        doors = [] if row[0] == "end" else row[1] if row[0] != "other" else [row[1][plan_other[here]]]
        seen += [door for door in dict.fromkeys(door[0] for door in doors) if door not in seen]
    return seen


class Case(unittest.TestCase):
    def assert_draw(self, rows, goals, told):
        self.assertIs(type(told), tuple)
        shut, steps = told
        self.assertEqual((type(shut), type(steps)), (list, list))
        self.assertEqual(len(steps), len(rows))
        self.assertEqual(shut, [place for place in range(len(rows)) if steps[place] is None])
        for place, row in enumerate(rows):
            step = steps[place]
            if place in goals:
                self.assertEqual(step, 0)
            elif row[0] == "end":
                self.assertIsNone(step)
            elif step is None:
                self.assertFalse(leads_below(row, steps, len(rows) + 1))
            else:
                self.assertIs(type(step), int)
                self.assertGreaterEqual(step, 1)
                self.assertTrue(leads_below(row, steps, step))
                self.assertFalse(leads_below(row, steps, step - 1))


class Draws(Case):
    def test_by_hand(self):
        floor = Floor(HALF, [
            ("one", to(1, 5)), ("other", to(2, 3)), ("chance", chance_to(4, 5)), ("one", to(2, 0)),
            ("end", ONE), ("end", NOUGHT), ("other", to(1, 5)), ("one", to(6, 7))])
        self.assertEqual(draw(floor, [4]), ([5, 6, 7], [4, 3, 1, 2, 0, None, None, None]))
        self.assertEqual(draw(floor, [5]), ([4], [1, 3, 1, 2, None, 0, 4, 5]))
        self.assertEqual(draw(floor, [4, 5]), ([], [1, 3, 1, 2, 0, 0, 4, 5]))
        self.assertEqual(draw(floor, []), (list(range(8)), [None] * 8))

    def test_each_kind_beside_a_goal_and_a_lost_end(self):
        ends = [("end", ONE), ("end", ONE)]
        for row, step in (
                (("one", to(0, 1)), 1), (("other", to(0, 1)), None), (("chance", chance_to(0, 1)), 1),
                (("one", to(1)), None), (("other", to(1)), None), (("chance", chance_to(1)), None),
                (("one", to(0)), 1), (("other", to(0, 0)), 1), (("chance", chance_to(0)), 1),
                (("one", to(2, 0)), 1), (("other", to(2, 0)), None), (("chance", chance_to(2, 0)), 1),
                (("one", to(2)), None), (("other", to(2)), None), (("chance", chance_to(2)), None)):
            with self.subTest(row=row):
                shut = [1, 2] if step is None else [1]
                self.assertEqual(draw(Floor(HALF, ends + [row]), [0]), (shut, [0, None, step]))

    def test_a_ring_of_the_others_places(self):
        rows = [("other", to(1, 3)), ("other", to(2, 3)), ("other", to(0, 3)), ("end", ONE)]
        self.assertEqual(draw(Floor(HALF, rows), [3]), ([0, 1, 2], [None, None, None, 0]))
        rows[1] = ("other", to(3, 3))
        self.assertEqual(draw(Floor(HALF, rows), [3]), ([], [2, 1, 3, 0]))

    def test_a_ring_of_the_ones_or_chances_places(self):
        for kind, lead in (("one", to), ("chance", chance_to)):
            rows = [(kind, lead(1)), (kind, lead(2)), (kind, lead(0)), ("end", ONE)]
            self.assertEqual(draw(Floor(HALF, rows), [3]), ([0, 1, 2], [None, None, None, 0]))
            rows[1] = (kind, lead(2, 3))
            self.assertEqual(draw(Floor(HALF, rows), [3]), ([], [2, 1, 3, 0]))

    def test_a_row_of_twelve(self):
        for kind, lead in (("one", to), ("other", to), ("chance", chance_to)):
            up = [(kind, lead(place + 1)) for place in range(11)] + [("end", ONE)]
            self.assertEqual(draw(Floor(HALF, up), [11]), ([], list(range(11, -1, -1))))
            down = [("end", ONE)] + [(kind, lead(place)) for place in range(11)]
            self.assertEqual(draw(Floor(HALF, down), [0]), ([], list(range(12))))

    def test_no_goals(self):
        for share, rows in floors_for_plans():
            self.assertEqual(draw(Floor(share, rows), []), (list(range(len(rows))), [None] * len(rows)))

    def test_ends_alone(self):
        floor = Floor(NOUGHT, [("end", ONE)] * 12)
        self.assertEqual(draw(floor, list(range(12))), ([], [0] * 12))
        self.assertEqual(draw(floor, [2, 11]), ([0, 1, 3, 4, 5, 6, 7, 8, 9, 10], [None, None, 0] + [None] * 8 + [0]))

    def test_pays_and_the_share_do_not_count(self):
        for share, rows in all_floors():
            for goals in all_goals(rows)[:8]:
                self.assertEqual(draw(Floor(share, rows), goals), draw(Floor(NOUGHT, bare(rows)), goals))

    def test_against_the_words(self):
        for share, rows in floors_for_plans() + any_floors(50, 100) + small_floors(51, 100):
            floor = Floor(share, rows)
            for goals in all_goals(rows)[:16] + [ends_of(rows)]:
                with self.subTest(rows=rows, goals=goals):
                    self.assert_draw(rows, goals, draw(floor, goals))

    def test_from_shut_places_the_other_keeps_away(self):
        for share, rows in small_floors(52, 80):
            plans = all_plans(rows, "other")
            for goals in all_goals(rows):
                shut = draw(Floor(share, rows), goals)[0]
                for place in range(len(rows)):
                    kept_away = any(not set(goals) & set(reached_from(rows, place, plan)) for plan in plans)
                    with self.subTest(rows=rows, goals=goals, place=place):
                        self.assertEqual(place in shut, kept_away)


class Goals(GoalCases, unittest.TestCase):
    def ask(self, floor, goals):
        return draw(floor, goals)

    def floors(self):
        return all_floors()


if __name__ == "__main__":
    unittest.main()
