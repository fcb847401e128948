import copy
import unittest
from random import Random

from chanceduel.errors import DuelError, NoPlan
from chanceduel.floors import Floor
from chanceduel.floortexts import read_floor
from chanceduel.plans import first_plan, worths_of
from helper import (
    EXAMPLE_TEXT, LEAST_PAY, MOST_PAY, NOUGHT, ONE, all_floors, all_plans, any_plan, assert_plans_refused, example,
    floors_for_plans, hand_floors, hand_ring, hard_floors, is_plan, is_table, plans_at_fault, small_floors, told_by,
    with_more)


def some_plans(source, rows, many):
    return [(any_plan(source, rows, "one"), any_plan(source, rows, "other")) for _ in range(many)]


class FirstPlans(unittest.TestCase):
    def test_by_hand(self):
        floor = Floor(*example())
        self.assertEqual(first_plan(floor, "one"), {0: 0})
        self.assertEqual(first_plan(floor, "other"), {})
        ring = Floor((1, 2), hand_ring(6))
        self.assertEqual(first_plan(ring, "one"), {0: 0, 2: 0, 4: 0})
        self.assertEqual(first_plan(ring, "other"), {1: 0, 3: 0, 5: 0})

    def test_just_the_places_of_the_hand(self):
        for share, rows in floors_for_plans():
            for hand in ("one", "other"):
                plan = first_plan(Floor(share, rows), hand)
                self.assertTrue(is_plan(plan, rows, hand))
                self.assertEqual(set(plan.values()) | {0}, {0})

    def test_no_place_of_the_hand(self):
        for row in (("end", ONE), ("chance", [(0, ONE, ONE)])):
            for hand in ("one", "other"):
                self.assertEqual(first_plan(Floor(NOUGHT, [row]), hand), {})
        self.assertEqual(first_plan(Floor(NOUGHT, [("one", [(0, ONE)])]), "other"), {})
        self.assertEqual(first_plan(Floor(NOUGHT, [("other", [(0, ONE)])]), "one"), {})


class RefusedPlans(unittest.TestCase):
    def assert_no_plan(self, place, rows, plan_one, plan_other):
        with self.subTest(rows=rows, plan_one=plan_one, plan_other=plan_other):
            with self.assertRaises(NoPlan) as taken:
                worths_of(Floor((1, 2), rows), plan_one, plan_other)
            self.assertEqual(taken.exception.place, place)
            self.assertEqual(type(taken.exception).__bases__, (DuelError,))

    def test_one_plan_at_fault(self):
        def ask(floor, hand, plan):
            plans = {"one": first_plan(floor, "one"), "other": first_plan(floor, "other"), hand: plan}
            worths_of(floor, plans["one"], plans["other"])

        assert_plans_refused(self, small_floors(20, 40) + [(NOUGHT, hand_ring(12))], ask)

    def test_both_plans_at_fault(self):
        for _, rows in small_floors(21, 25):
            for place, plan in plans_at_fault(rows, "one")[::3]:
                for other_place, other_plan in plans_at_fault(rows, "other")[::3]:
                    self.assert_no_plan(min(place, other_place), rows, plan, other_plan)

    def test_the_least_place_whichever_hand_has_it(self):
        doors = [(0, ONE), (1, ONE)]
        rows = [("one", doors), ("other", doors), ("end", ONE), ("other", doors), ("one", doors)]
        for place, plan_one, plan_other in (
                (0, {}, {}), (1, {0: 1, 4: 1}, {}), (1, {0: 1}, {}), (3, {0: 1, 4: 1}, {1: 0}), (3, {0: 1}, {1: 0}),
                (4, {0: 1}, {1: 0, 3: 0}), (0, {4: 0}, {1: 0, 3: 0}), (1, {0: 0, 4: 2}, {1: -1, 3: 2}),
                (4, {0: 0, 4: 2}, {1: 1, 3: 1})):
            self.assert_no_plan(place, rows, plan_one, plan_other)

    def test_the_other_hands_plan_does_not_make_up_for_it(self):
        rows = [("one", [(0, ONE)]), ("other", [(0, ONE)])]
        self.assert_no_plan(0, rows, {1: 0}, {0: 0, 1: 0})
        self.assert_no_plan(1, rows, {0: 0, 1: 0}, {0: 0})
        self.assert_no_plan(0, rows, {1: 0}, {0: 0})


class Worths(unittest.TestCase):
    def assert_words(self, share, rows, plan_one, plan_other):
        told = worths_of(Floor(share, rows), plan_one, plan_other)
        self.assertTrue(is_table(told, len(rows)))
        self.assertEqual(told, told_by(share, rows, {**plan_one, **plan_other}, told))

    def test_by_hand(self):
        floor = read_floor(EXAMPLE_TEXT)[0]
        # a = 3 + b / 2 and b = (1 + a / 2) / 2 + (-2 / 3 + 5 / 2) / 2.
        self.assertEqual(worths_of(floor, {0: 0}, {}), [(89, 21), (52, 21), (5, 1)])
        # a = 5 / 2.
        self.assertEqual(worths_of(floor, {0: 1}, {}), [(5, 2), (49, 24), (5, 1)])

    def test_doors_to_the_place_itself(self):
        for share, worth in ((NOUGHT, ONE), ((1, 2), (2, 1)), ((2, 3), (3, 1)), ((999, 1000), (1000, 1))):
            for kind in ("one", "other"):
                rows = [(kind, [(0, NOUGHT), (0, ONE)])]
                self.assertEqual(worths_of(Floor(share, rows), {0: 1}, {0: 1}), [worth])
                self.assertEqual(worths_of(Floor(share, rows), {0: 0}, {0: 0}), [NOUGHT])
            self.assertEqual(worths_of(Floor(share, [("chance", [(0, ONE, ONE)])]), {}, {}), [worth])

    def test_the_greatest_pays(self):
        rows = [("one", [(1, MOST_PAY), (0, LEAST_PAY)]), ("other", [(0, MOST_PAY), (1, LEAST_PAY)])]
        floor = Floor((999, 1000), rows)
        self.assertEqual(worths_of(floor, {0: 0}, {1: 0}), [(10 ** 33, 1), (10 ** 33, 1)])
        self.assertEqual(worths_of(floor, {0: 1}, {1: 1}), [(-10 ** 33, 1), (-10 ** 33, 1)])
        self.assertEqual(worths_of(floor, {0: 0}, {1: 1}), [(-998 * 10 ** 30, 1), (-10 ** 33, 1)])

    def test_a_share_of_nought_leaves_the_pays(self):
        for _, rows in small_floors(22, 30):
            for plan_one, plan_other in some_plans(Random(1), rows, 3):
                told = worths_of(Floor(NOUGHT, rows), plan_one, plan_other)
                for place, door in {**plan_one, **plan_other}.items():
                    self.assertEqual(told[place], rows[place][1][door][1])

    def test_against_the_words(self):
        for seed, (share, rows) in enumerate(floors_for_plans()):
            for plan_one, plan_other in some_plans(Random(seed), rows, 3):
                with self.subTest(share=share, rows=rows, plan_one=plan_one, plan_other=plan_other):
                    self.assert_words(share, rows, plan_one, plan_other)

    def test_all_plans_of_small_floors(self):
        for share, rows in small_floors(23, 25):
            for plan_one in all_plans(rows, "one"):
                for plan_other in all_plans(rows, "other")[:9]:
                    with self.subTest(share=share, rows=rows, plan_one=plan_one, plan_other=plan_other):
                        self.assert_words(share, rows, plan_one, plan_other)

    def test_what_else_is_in_a_plan(self):
        for seed, (share, rows) in enumerate(all_floors()):
            floor = Floor(share, rows)
            for plan_one, plan_other in some_plans(Random(seed), rows, 1):
                told = worths_of(floor, plan_one, plan_other)
                more_one = with_more(plan_one, rows, "one")
                more_other = with_more(plan_other, rows, "other")
                self.assertEqual(worths_of(floor, more_one, more_other), told)
                # One dict may serve both hands.
                both = {**plan_one, **plan_other}
                self.assertEqual(worths_of(floor, both, both), told)


class NothingChanges(unittest.TestCase):
    def test_what_was_handed_in_stays(self):
        for seed, (share, rows) in enumerate(all_floors()):
            floor = Floor(share, rows)
            for plans in some_plans(Random(seed), rows, 1):
                handed = [with_more(plan, rows, hand) for plan, hand in zip(plans, ("one", "other"))]
                kept = copy.deepcopy(handed)
                worths_of(floor, *handed)
                self.assertEqual(handed, kept)
                self.assertEqual([list(plan) for plan in handed], [list(plan) for plan in kept])
                self.assertEqual((floor.share(), floor.rows()), (share, rows))

    def test_what_was_told_is_changed(self):
        for seed, (share, rows) in enumerate(all_floors()):
            floor = Floor(share, rows)
            for hand in ("one", "other"):
                plan = first_plan(floor, hand)
                kept = dict(plan)
                plan.clear()
                plan[99] = 1
                self.assertEqual(first_plan(floor, hand), kept)
            plan_one, plan_other = some_plans(Random(seed), rows, 1)[0]
            told = worths_of(floor, plan_one, plan_other)
            kept = list(told)
            other_told = worths_of(floor, plan_one, plan_other)
            told[0] = "other"
            told.append("more")
            self.assertEqual(other_told, kept)
            self.assertEqual(worths_of(floor, plan_one, plan_other), kept)

    def test_plans_that_are_changed_behind(self):
        share, rows = hand_floors(25, 1)[0]
        floor = Floor(share, rows)
        plan_one = first_plan(floor, "one")
        plan_other = first_plan(floor, "other")
        told = worths_of(floor, plan_one, plan_other)
        kept = list(told)
        plan_one.clear()
        plan_other.clear()
        self.assertEqual(told, kept)


class Samples(unittest.TestCase):
    def test_the_edges_are_among_them(self):
        floors = [Floor(share, rows) for share, rows in floors_for_plans()]
        self.assertEqual({floor.size() for floor in floors}, set(range(1, 13)))
        self.assertLessEqual({NOUGHT, (1, 2), (999, 1000)}, {floor.share() for floor in floors})
        for _, rows in hard_floors(13, 4):
            self.assertEqual({row[0] for row in rows}, {"one", "other", "chance", "end"})
            for place, row in enumerate(rows):
                self.assertTrue(row[0] == "end" or row[1][0][0] == place)

    def test_faults_of_every_form(self):
        rows = [("one", [(0, ONE), (1, ONE)]), ("other", [(0, ONE)]), ("one", [(0, ONE)])]
        told = plans_at_fault(rows, "one")
        for fault in ((0, {2: 0}), (0, {0: 2, 2: 0}), (0, {0: -1, 2: 0}), (2, {0: 0}), (2, {0: 0, 2: 1}),
                      (2, {0: 0, 2: 10 ** 40}), (0, {0: -1, 2: 1}), (0, {})):
            self.assertIn(fault, told)
        self.assertEqual(plans_at_fault(rows[:1], "other"), [])


if __name__ == "__main__":
    unittest.main()
