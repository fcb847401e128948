import copy
import unittest
from fractions import Fraction
from math import prod
from random import Random

from chanceduel.answers import against
from chanceduel.floors import Floor, turned
from chanceduel.floortexts import read_floor
from chanceduel.mending import mended, worths
from chanceduel.plans import first_plan, worths_of
from helper import (
    EXAMPLE_TEXT, LEAST_PAY, MOST_PAY, NOUGHT, ONE, all_floors, all_plans, any_plan, assert_plans_refused,
    doors_of_hand, doors_show, example, floors_for_plans, hand_floors, hand_ring, is_plan, is_table, opposite,
    small_floors, told_by, with_more)

HANDS = ("one", "other")
# At each place all doors show the same: the same pay, and places that are worth the same.
ALL_THE_SAME = [
    ("one", [(1, ONE), (0, ONE), (2, ONE)]), ("other", [(2, ONE), (0, ONE), (1, ONE)]),
    ("chance", [(0, ONE, (1, 2)), (1, ONE, (1, 2))])]


def gain(hand, new, old):
    """By how much the new number is better for the hand."""
    more = Fraction(*new) - Fraction(*old)
    return more if hand == "one" else -more


def better_doors(share, rows, hand, plan, table):
    """For each place of the plan the doors that show strictly better than the plan's, by Python's own fractions."""
    told = {}
    for place, door in plan.items():
        shown = doors_show(share, rows[place], table)
        told[place] = [other for other, number in enumerate(shown)
                       if (number > shown[door] if hand == "one" else number < shown[door])]
    return told


class Case(unittest.TestCase):
    def assert_rounds(self, share, rows, hand, rounds):
        for number, (plan, table) in enumerate(rounds):
            self.assertTrue(is_plan(plan, rows, hand))
            self.assertTrue(is_table(table, len(rows)))
            self.assertEqual(table, told_by(share, rows, plan, table))
            better = better_doors(share, rows, hand, plan, table)
            if number == len(rounds) - 1:
                self.assertFalse(any(better.values()))
                continue
            next_plan, next_table = rounds[number + 1]
            changed = [place for place in plan if next_plan[place] != plan[place]]
            self.assertTrue(changed)
            for place in changed:
                self.assertIn(next_plan[place], better[place])
            for place in range(len(rows)):
                more = gain(hand, next_table[place], table[place])
                self.assertGreaterEqual(more, 0)
                if place in changed:
                    self.assertGreater(more, 0)

    def assert_mended(self, share, rows, hand, start, told):
        """The point's words of what was told; the number of the rounds is handed back."""
        self.assertIs(type(told), tuple)
        plan, answer, table, rounds = told
        self.assertIs(type(rounds), list)
        self.assertEqual({type(one) for one in rounds}, {tuple})
        self.assertEqual(rounds[0][0], start)
        self.assert_rounds(share, rows, hand, rounds)
        self.assertEqual((plan, table), rounds[-1])
        self.assertTrue(is_plan(answer, rows, opposite(hand)))
        self.assertEqual(table, told_by(share, rows, {}, table))
        self.assertEqual(table, told_by(share, rows, {**plan, **answer}, table))
        self.assertLessEqual(len(rounds), prod(doors_of_hand(rows, hand).values()))
        seen = [sorted(one[0].items()) for one in rounds]
        self.assertTrue(all(one not in seen[:number] for number, one in enumerate(seen)))
        return len(rounds)


class Mended(Case):
    def test_by_hand(self):
        floor = Floor(*example())
        table = [(89, 21), (52, 21), (5, 1)]
        self.assertEqual(mended(floor), ({0: 0}, {}, table, [({0: 0}, table)]))
        first = ({0: 1}, [(5, 2), (49, 24), (5, 1)])
        self.assertEqual(mended(floor, "one", {0: 1}), ({0: 0}, {}, table, [first, ({0: 0}, table)]))
        self.assertEqual(mended(floor, "other"), ({}, {0: 0}, table, [({}, table)]))

    def test_no_place_of_the_hand(self):
        for row, worth in ((("end", ONE), ONE), (("chance", [(0, ONE, ONE)]), (2, 1))):
            for hand in HANDS:
                for start in (None, {}, {0: 7, 5: -1}):
                    told = mended(Floor((1, 2), [row]), hand, start)
                    self.assertEqual(told, ({}, {}, [worth], [({}, [worth])]))
        for hand in HANDS:
            told = mended(Floor((1, 2), [(opposite(hand), [(0, ONE)])]), hand)
            self.assertEqual(told, ({}, {0: 0}, [(2, 1)], [({}, [(2, 1)])]))

    def test_one_place_with_all_doors_to_itself(self):
        doors = [(0, NOUGHT), (0, LEAST_PAY), (0, MOST_PAY), (0, ONE), (0, MOST_PAY)]
        told = mended(Floor((999, 1000), [("one", doors)]))
        self.assertIn(told[0], ({0: 2}, {0: 4}))
        self.assertEqual(told[2], [(10 ** 33, 1)])
        told = mended(Floor((999, 1000), [("other", doors)]), "other")
        self.assertEqual((told[0], told[2]), ({0: 1}, [(-10 ** 33, 1)]))

    def test_all_doors_show_the_same(self):
        floor = Floor((2, 3), ALL_THE_SAME)
        for hand in HANDS:
            for start in all_plans(ALL_THE_SAME, hand):
                plan, _, table, rounds = mended(floor, hand, start)
                self.assertEqual(plan, start)
                self.assertEqual(table, [(3, 1)] * 3)
                self.assertEqual(rounds, [(start, table)])

    def test_from_the_first_plan(self):
        for share, rows in floors_for_plans():
            floor = Floor(share, rows)
            for hand in HANDS:
                with self.subTest(share=share, rows=rows, hand=hand):
                    self.assert_mended(share, rows, hand, first_plan(floor, hand), mended(floor, hand))

    def assert_same_worths(self, share, rows, starts_of):
        """The same worths, by rounds as the point tells them, from each of the starts of either hand."""
        floor = Floor(share, rows)
        table = worths(floor)
        for hand in HANDS:
            for start in starts_of(hand):
                with self.subTest(share=share, rows=rows, hand=hand, start=start):
                    told = mended(floor, hand, start)
                    self.assert_mended(share, rows, hand, start, told)
                    self.assertEqual(told[2], table)

    def test_from_any_start(self):
        source = Random(46)
        for share, rows in floors_for_plans():
            self.assert_same_worths(share, rows, lambda hand: [any_plan(source, rows, hand)])

    def test_from_every_start(self):
        for share, rows in small_floors(40, 20):
            self.assert_same_worths(share, rows, lambda hand: all_plans(rows, hand)[:40])

    def test_the_rounds_worths_are_those_of_held_plans(self):
        for share, rows in hand_floors(41, 6):
            floor = Floor(share, rows)
            for hand in HANDS:
                for plan, table in mended(floor, hand)[3]:
                    self.assertEqual(against(floor, hand, plan)[1], table)

    def test_the_plan_gets_the_worths_whatever_the_opposite_hand_does(self):
        for share, rows in small_floors(42, 30):
            floor = Floor(share, rows)
            for hand in HANDS:
                plan, _, table, _ = mended(floor, hand)
                for answer in all_plans(rows, opposite(hand)):
                    told = worths_of(floor, plan, answer) if hand == "one" else worths_of(floor, answer, plan)
                    for new, old in zip(told, table):
                        self.assertGreaterEqual(gain(hand, new, old), 0)

    def test_several_rounds_come(self):
        many = [len(mended(Floor(share, rows), hand)[3]) for share, rows in hand_floors(14, 12) for hand in HANDS]
        self.assertGreaterEqual(max(many), 4)
        self.assertIn(2, many)


class Handed(unittest.TestCase):
    def test_hand_and_start_by_place_and_by_name(self):
        for seed, (share, rows) in enumerate(hand_floors(43, 6)):
            floor = Floor(share, rows)
            self.assertEqual(mended(floor), mended(floor, "one"))
            self.assertEqual(mended(floor, start=None), mended(floor, "one", None))
            for hand in HANDS:
                start = any_plan(Random(seed), rows, hand)
                told = mended(floor, hand, start)
                self.assertEqual(told[3][0][0], start)
                self.assertEqual(mended(floor, hand=hand, start=start), told)
                self.assertEqual(mended(floor, start=start, hand=hand), told)
                self.assertEqual(mended(floor, hand, start=start), told)
                self.assertEqual(mended(floor, hand=hand), mended(floor, hand))
                self.assertEqual(mended(floor, hand), mended(floor, hand, first_plan(floor, hand)))
            start = any_plan(Random(seed), rows, "one")
            self.assertEqual(mended(floor, start=start), mended(floor, "one", start))

    def test_what_else_is_in_a_start(self):
        for seed, (share, rows) in enumerate(all_floors()):
            floor = Floor(share, rows)
            for hand in HANDS:
                start = any_plan(Random(seed), rows, hand)
                self.assertEqual(mended(floor, hand, with_more(start, rows, hand)), mended(floor, hand, start))

    def test_refused_starts(self):
        assert_plans_refused(self, small_floors(44, 40) + [(NOUGHT, hand_ring(12))], mended)


class Worths(unittest.TestCase):
    def test_by_hand(self):
        self.assertEqual(worths(read_floor(EXAMPLE_TEXT)[0]), [(89, 21), (52, 21), (5, 1)])
        # The one stays at a for 1 each time; the other goes to c rather than there.
        floor = read_floor("share 1/2; a one a 1, b 0; b other a 0, c 0; c end -3")[0]
        self.assertEqual(worths(floor), [(2, 1), (-3, 2), (-3, 1)])

    def test_each_place_has_its_look(self):
        for share, rows in floors_for_plans():
            floor = Floor(share, rows)
            with self.subTest(share=share, rows=rows):
                table = worths(floor)
                self.assertTrue(is_table(table, len(rows)))
                self.assertEqual(table, told_by(share, rows, {}, table))
                self.assertEqual([floor.look(place, table) for place in range(len(rows))], table)

    def test_the_same_from_either_side(self):
        for share, rows in floors_for_plans():
            floor = Floor(share, rows)
            with self.subTest(share=share, rows=rows):
                self.assertEqual(worths(floor), mended(floor, "one")[2])
                self.assertEqual(worths(floor), mended(floor, "other")[2])

    def test_the_turned_floor(self):
        for share, rows in floors_for_plans():
            floor = Floor(share, rows)
            self.assertEqual(worths(turned(floor)), [(-top, bottom) for top, bottom in worths(floor)])


class NothingChanges(unittest.TestCase):
    def test_what_was_handed_in_stays(self):
        for seed, (share, rows) in enumerate(all_floors() + hand_floors(45, 6)):
            floor = Floor(share, rows)
            for hand in HANDS:
                start = with_more(any_plan(Random(seed), rows, hand), rows, hand)
                kept = list(start.items())
                told = mended(floor, hand, start)
                self.assertEqual(list(start.items()), kept)
                self.assertEqual((floor.share(), floor.rows()), (share, rows))
                kept_told = copy.deepcopy(told)
                start.clear()
                self.assertEqual(told, kept_told)

    def assert_apart(self, told):
        """Each of the told lists and dicts is changed in its turn, and all the others are looked at."""
        plan, answer, table, rounds = told
        parts = [plan, answer, table] + [part for one in rounds for part in one]
        kept = copy.deepcopy(parts)
        for number, part in enumerate(parts):
            part.clear()
            others = parts[:number] + parts[number + 1:]
            self.assertEqual(others, [type(one)() for one in kept[:number]] + kept[number + 1:])
        many = len(rounds)
        rounds.clear()
        self.assertEqual(len(parts), 3 + 2 * many)

    def test_what_was_told_is_changed(self):
        for seed, (share, rows) in enumerate(all_floors() + hand_floors(45, 6)):
            floor = Floor(share, rows)
            for hand in HANDS:
                start = any_plan(Random(seed), rows, hand)
                told = mended(floor, hand, start)
                kept = copy.deepcopy(told)
                other_told = mended(floor, hand, start)
                self.assert_apart(told)
                self.assertEqual(other_told, kept)
                self.assertEqual(mended(floor, hand, start), kept)
                self.assertEqual(start, kept[3][0][0])

    def test_told_worths_are_changed(self):
        for share, rows in all_floors():
            floor = Floor(share, rows)
            told = worths(floor)
            kept = list(told)
            other_told = worths(floor)
            told.clear()
            self.assertEqual(other_told, kept)
            self.assertEqual(worths(floor), kept)


if __name__ == "__main__":
    unittest.main()
