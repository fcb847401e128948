import copy
import unittest
from fractions import Fraction
from random import Random

from chanceduel.answers import against
from chanceduel.floors import Floor
from chanceduel.plans import first_plan, worths_of
from helper import (
    LEAST_PAY, MOST_PAY, NOUGHT, ONE, all_floors, all_plans, any_plan, assert_plans_refused, example,
    floors_for_plans, hand_floors, hand_ring, is_plan, is_table, opposite, small_floors, told_by, with_more)

HANDS = ("one", "other")
# Two doors for each hand: to an end of 4 or to an end of -4.
FORK = [("one", [(2, NOUGHT), (3, NOUGHT)]), ("other", [(2, NOUGHT), (3, NOUGHT)]), ("end", (4, 1)), ("end", (-4, 1))]


def plans_by_hand(hand, plan, answer):
    """The plans in the order in which worths_of takes them."""
    return (plan, answer) if hand == "one" else (answer, plan)


class Case(unittest.TestCase):
    def assert_answer(self, share, rows, hand, plan):
        """The point's words of the told answer and worths; the worths are handed back."""
        floor = Floor(share, rows)
        told = against(floor, hand, plan)
        self.assertIs(type(told), tuple)
        answer, table = told
        self.assertTrue(is_table(table, len(rows)))
        self.assertTrue(is_plan(answer, rows, opposite(hand)))
        self.assertEqual(table, told_by(share, rows, plan, table))
        self.assertEqual(table, told_by(share, rows, {**plan, **answer}, table))
        self.assertEqual(table, worths_of(floor, *plans_by_hand(hand, plan, answer)))
        return table


class Answers(Case):
    def test_by_hand(self):
        floor = Floor((1, 2), FORK)
        for door, worth in ((0, (2, 1)), (1, (-2, 1))):
            self.assertEqual(against(floor, "one", {0: door}), ({1: 1}, [worth, (-2, 1), (4, 1), (-4, 1)]))
            self.assertEqual(against(floor, "other", {1: door}), ({0: 0}, [(2, 1), worth, (4, 1), (-4, 1)]))

    def test_no_place_of_the_answering_hand(self):
        floor = Floor(*example())
        self.assertEqual(against(floor, "one", {0: 0}), ({}, [(89, 21), (52, 21), (5, 1)]))
        self.assertEqual(against(floor, "one", {0: 1}), ({}, [(5, 2), (49, 24), (5, 1)]))

    def test_no_place_of_the_holding_hand(self):
        floor = Floor(*example())
        self.assertEqual(against(floor, "other", {}), ({0: 0}, [(89, 21), (52, 21), (5, 1)]))

    def test_no_place_of_either_hand(self):
        for hand in HANDS:
            self.assertEqual(against(Floor((1, 2), [("end", ONE)]), hand, {}), ({}, [ONE]))
            self.assertEqual(against(Floor((1, 2), [("chance", [(0, ONE, ONE)])]), hand, {}), ({}, [(2, 1)]))

    def test_the_greatest_pays(self):
        doors = [(0, LEAST_PAY), (0, MOST_PAY), (0, NOUGHT)]
        most = (10 ** 33, 1)
        least = (-10 ** 33, 1)
        self.assertEqual(against(Floor((999, 1000), [("one", doors)]), "other", {}), ({0: 1}, [most]))
        self.assertEqual(against(Floor((999, 1000), [("other", doors)]), "one", {}), ({0: 0}, [least]))

    def test_a_lesser_pay_now_for_more_later(self):
        # Staying brings 1 each time, going brings 3 once: 1 / (1 - share) against 3.
        rows = [("one", [(1, (3, 1)), (0, ONE)]), ("end", NOUGHT)]
        self.assertEqual(against(Floor((1, 2), rows), "other", {}), ({0: 0}, [(3, 1), NOUGHT]))
        self.assertEqual(against(Floor((3, 4), rows), "other", {}), ({0: 1}, [(4, 1), NOUGHT]))

    def test_against_the_words(self):
        for seed, (share, rows) in enumerate(floors_for_plans()):
            for hand in HANDS:
                plan = any_plan(Random(seed), rows, hand)
                with self.subTest(share=share, rows=rows, hand=hand, plan=plan):
                    self.assert_answer(share, rows, hand, plan)

    def test_no_plan_does_better(self):
        for seed, (share, rows) in enumerate(small_floors(30, 60)):
            floor = Floor(share, rows)
            for hand in HANDS:
                plan = any_plan(Random(seed), rows, hand)
                with self.subTest(share=share, rows=rows, hand=hand, plan=plan):
                    table = self.assert_answer(share, rows, hand, plan)
                    for answer in all_plans(rows, opposite(hand)):
                        others = worths_of(floor, *plans_by_hand(hand, plan, answer))
                        for worth, other in zip(table, others):
                            gain = Fraction(*other) - Fraction(*worth)
                            self.assertGreaterEqual(gain if hand == "one" else -gain, 0)

    def test_all_held_plans(self):
        for share, rows in small_floors(31, 20) + hand_floors(32, 1):
            for hand in HANDS:
                for plan in all_plans(rows, hand)[:40]:
                    with self.subTest(share=share, rows=rows, hand=hand, plan=plan):
                        self.assert_answer(share, rows, hand, plan)

    def test_what_else_is_in_a_plan(self):
        for seed, (share, rows) in enumerate(all_floors()):
            floor = Floor(share, rows)
            for hand in HANDS:
                plan = any_plan(Random(seed), rows, hand)
                self.assertEqual(against(floor, hand, with_more(plan, rows, hand)), against(floor, hand, plan))


class RefusedPlans(unittest.TestCase):
    def test_the_least_place(self):
        assert_plans_refused(self, small_floors(33, 40) + [(NOUGHT, hand_ring(12))], against)


class NothingChanges(unittest.TestCase):
    def test_what_was_handed_in_stays(self):
        for seed, (share, rows) in enumerate(floors_for_plans()):
            floor = Floor(share, rows)
            for hand in HANDS:
                plan = with_more(any_plan(Random(seed), rows, hand), rows, hand)
                kept = list(plan.items())
                against(floor, hand, plan)
                self.assertEqual(list(plan.items()), kept)
                self.assertEqual((floor.share(), floor.rows()), (share, rows))

    def test_what_was_told_is_changed(self):
        for seed, (share, rows) in enumerate(all_floors()):
            floor = Floor(share, rows)
            for hand in HANDS:
                plan = any_plan(Random(seed), rows, hand)
                told = against(floor, hand, plan)
                kept = copy.deepcopy(told)
                other_told = against(floor, hand, plan)
                told[0].clear()
                told[0][-1] = 7
                self.assertEqual(told[1], kept[1])
                told[1].clear()
                self.assertEqual(told[0], {-1: 7})
                self.assertEqual(other_told, kept)
                self.assertEqual(against(floor, hand, plan), kept)
                self.assertEqual(first_plan(floor, opposite(hand)), {place: 0 for place in kept[0]})
                plan.clear()
                self.assertEqual(other_told, kept)


if __name__ == "__main__":
    unittest.main()
