import copy
import unittest
from fractions import Fraction
from math import gcd, lcm
from random import Random

from chanceduel.errors import NoFloor, NoPlace
from chanceduel.floors import Floor, turned
from helper import (
    FINEST_PAY, HALF, LEAST_FINEST_PAY, LEAST_PAY, MOST_PAY, NOUGHT, ONE, all_floors, any_floors, any_pay, doors_show,
    example, hand_ring, named_edges, plain, row_looks)

GOOD_END = ("end", ONE)
WRONG_SHARES = ((-1, 2), (-1, 1), (-1, 1000), (1, 1), (3, 2), (1001, 1000), (2, 1), (1, 1001), (1000, 1001), (500, 1001))

TOP_BEYOND = ((10 ** 30 + 1, 1), (-10 ** 30 - 1, 1), (10 ** 30 + 1, 7), (-10 ** 30 - 1, 7))
BOTTOM_BEYOND = ((1, 10 ** 6 + 1), (-1, 10 ** 6 + 1), (10 ** 30, 10 ** 6 + 1))
WRONG_CHANCES = {
    "a chance of 0": [(ONE, NOUGHT), (HALF, NOUGHT, HALF), (NOUGHT,)],
    "a chance below 0": [((3, 2), (-1, 2)), ((-1, 2), (3, 2)), (HALF, HALF, HALF, (-1, 2)), ((-1, 1),)],
    "less than 1": [(HALF,), (HALF, (1, 3)), ((1, 6),) * 5, ((999999, 10 ** 6),), ((1, 3), (200000, 300001))],
    "more than 1": [((3, 2),), ((2, 1),), (HALF, HALF, (1, 10 ** 6)), ((1, 5),) * 6, (ONE, ONE)],
    "a common bottom above 10 ** 6, by one chance": [
        ((1, 10 ** 6 + 1), (10 ** 6, 10 ** 6 + 1)), ((1, 2 * 10 ** 6), (2 * 10 ** 6 - 1, 2 * 10 ** 6)),
        (HALF, (1, 10 ** 6 + 2), (250000, 500001))],
    "a common bottom above 10 ** 6, by several": [
        # The common bottom is 2 * 10 ** 6, and none of the chances has it.
        ((1, 128), (1, 128), (1, 15625), (4, 15625), (196811, 200000)),
        # By 101 * 103, 103 * 107 and 101 * 107 it is 101 * 103 * 107, which is 1113121.
        ((3000, 10403), (3013, 11021), (4736, 10807))]}


def row_of_chances(chances):
    return ("chance", [(0, NOUGHT, chance) for chance in chances])


def wrong_rows(size):
    """Faulty rows of a floor of so many places, by their faults."""
    told = {
        "another word": [
            (word, doors) for word in ("", "One", "ONE", "ones", "on", "two", "ends", "end ", " end", "chances", "hand")
            for doors in ([(0, ONE)], [(0, ONE, ONE)], [])] + [("finish", ONE), ("END", ONE)],
        "no doors": [("one", []), ("other", []), ("chance", [])],
        "seven doors": [
            ("one", [(0, ONE)] * 7), ("other", [(0, ONE)] * 7), row_of_chances(((1, 7),) * 7),
            row_of_chances(((1, 12),) * 12)]}
    for fault, to in (("a to of -1", -1), ("a to of the number of places", size), ("a to far off", 10 ** 40)):
        told[fault] = [
            ("one", [(to, ONE)]), ("other", [(to, ONE)]), ("chance", [(to, ONE, ONE)]),
            ("one", [(0, ONE), (to, ONE)]), ("other", [(0, ONE)] * 5 + [(to, ONE)]),
            ("chance", [(0, ONE, HALF), (to, ONE, HALF)])]
    for fault, pays in (("a top beyond", TOP_BEYOND), ("a bottom beyond", BOTTOM_BEYOND)):
        told[fault] = [
            row for pay in pays for row in (
                ("end", pay), ("one", [(0, pay)]), ("other", [(0, ONE), (0, pay)]), ("chance", [(0, pay, ONE)]),
                ("chance", [(0, pay, HALF), (0, ONE, HALF)]))]
    for fault, chances in WRONG_CHANCES.items():
        told[fault] = [row_of_chances(row) for row in chances]
    return [(fault, row) for fault, rows in told.items() for row in rows]


def table_of(seed, size):
    source = Random(seed)
    return [any_pay(source) for _ in range(size)]


def small_table(seed, size):
    source = Random(seed)
    return [(source.randrange(-1, 2), 1) for _ in range(size)]


class Case(unittest.TestCase):
    def assert_told(self, floor, share, rows):
        self.assertEqual(floor.share(), share)
        self.assertEqual(floor.size(), len(rows))
        self.assertEqual(floor.rows(), rows)
        self.assertIs(type(floor.rows()), list)
        for place, row in enumerate(rows):
            self.assertEqual(floor.kind(place), row[0])
            self.assertEqual(floor.doors(place), [] if row[0] == "end" else row[1])
            self.assertIs(type(floor.doors(place)), list)
            self.assertEqual(floor.pay(place), row[1] if row[0] == "end" else None)
            self.assertIs(type(floor.rows()[place]), tuple)


class Made(Case):
    def test_all_that_is_told(self):
        for share, rows in all_floors():
            with self.subTest(share=share, rows=rows):
                self.assert_told(Floor(share, rows), share, rows)

    def test_by_hand(self):
        floor = Floor((1, 2), [
            ("one", [(1, (3, 1)), (2, NOUGHT)]), ("chance", [(0, ONE, HALF), (2, (-2, 3), HALF)]), ("end", (5, 1))])
        self.assertEqual(floor.size(), 3)
        self.assertEqual(floor.share(), (1, 2))
        self.assertEqual([floor.kind(place) for place in range(3)], ["one", "chance", "end"])
        self.assertEqual(floor.doors(0), [(1, (3, 1)), (2, (0, 1))])
        self.assertEqual(floor.doors(1), [(0, (1, 1), (1, 2)), (2, (-2, 3), (1, 2))])
        self.assertEqual(floor.doors(2), [])
        self.assertEqual([floor.pay(place) for place in range(3)], [None, None, (5, 1)])

    def test_every_share_of_the_edges(self):
        for share in (NOUGHT, (999, 1000), (1, 1000), (998, 999), (1, 2), (1, 999)):
            with self.subTest(share=share):
                self.assertEqual(Floor(share, [GOOD_END]).share(), share)

    def test_every_number_of_places_and_doors(self):
        for size in range(1, 13):
            for doors in range(1, 7):
                rows = [("other", [(size - 1, ONE)] * doors)] * size
                self.assert_told(Floor(HALF, rows), HALF, rows)
                rows = [("chance", [(size - 1, ONE, (1, doors))] * doors)] * size
                self.assert_told(Floor(HALF, rows), HALF, rows)

    def test_greatest_pays_at_every_kind(self):
        for pay in (MOST_PAY, LEAST_PAY, FINEST_PAY, LEAST_FINEST_PAY, (1, 10 ** 6), (-1, 10 ** 6), (10 ** 30, 999999)):
            rows = [("one", [(0, pay)]), ("other", [(0, pay)]), ("chance", [(0, pay, ONE)]), ("end", pay)]
            with self.subTest(pay=pay):
                self.assert_told(Floor(HALF, rows), HALF, rows)


class RefusedFloors(unittest.TestCase):
    def assert_no_floor(self, share, rows):
        with self.assertRaises(NoFloor):
            Floor(share, rows)

    def test_shares(self):
        for share in WRONG_SHARES:
            with self.subTest(share=share):
                self.assert_no_floor(share, [GOOD_END])
                self.assert_no_floor(share, hand_ring(12))

    def test_numbers_of_places(self):
        for many in (0, 13, 14, 100):
            with self.subTest(many=many):
                self.assert_no_floor(HALF, [GOOD_END] * many)
                self.assert_no_floor(NOUGHT, [GOOD_END] * many)

    def test_ahead_of_faulty_rows(self):
        for fault, row in wrong_rows(1):
            with self.subTest(fault=fault, row=row):
                self.assert_no_floor((1, 1), [row])
                self.assert_no_floor((-1, 2), [row])
                self.assert_no_floor((3, 2), [row])
                self.assert_no_floor((1, 1001), [GOOD_END, row])
                self.assert_no_floor(HALF, [row] * 13)
                self.assert_no_floor(HALF, [GOOD_END] * 12 + [row])

    def test_both_at_once(self):
        for share in WRONG_SHARES:
            self.assert_no_floor(share, [])
            self.assert_no_floor(share, [GOOD_END] * 13)


class RefusedPlaces(unittest.TestCase):
    def assert_no_place(self, place, rows):
        with self.assertRaises(NoPlace) as taken:
            Floor(HALF, rows)
        self.assertEqual(taken.exception.place, place)
        self.assertIs(type(taken.exception.place), int)

    def test_each_fault_at_each_place(self):
        for size in (1, 3, 12):
            for fault, row in wrong_rows(size):
                for place in sorted({0, size // 2, size - 1}):
                    with self.subTest(fault=fault, row=row, place=place):
                        rows = [GOOD_END] * size
                        rows[place] = row
                        self.assert_no_place(place, rows)

    def test_first_of_two(self):
        faults = wrong_rows(4)
        for at, (fault, row) in enumerate(faults):
            with self.subTest(fault=fault, row=row):
                other = faults[(at * 7 + 3) % len(faults)][1]
                self.assert_no_place(1, [GOOD_END, row, GOOD_END, other])
                self.assert_no_place(2, [GOOD_END, GOOD_END, other, row])
                self.assert_no_place(0, [row, other, other, row])

    def test_the_last_place_is_a_place(self):
        for size in range(1, 13):
            rows = [("one", [(size - 1, ONE)])] * size
            self.assertEqual(Floor(HALF, rows).rows(), rows)
            self.assert_no_place(size - 1, rows[1:] + [("one", [(size, ONE)])])


class NothingChanges(Case):
    def test_what_was_handed_in_is_changed_behind(self):
        for share, rows in all_floors():
            kept = copy.deepcopy(rows)
            floor = Floor(share, rows)
            self.assertEqual(rows, kept)
            for row in rows:
                if row[0] != "end":
                    row[1].append("more")
                    row[1][0] = "other"
            rows.clear()
            self.assert_told(floor, share, kept)

    def test_what_was_told_is_changed(self):
        for share, rows in all_floors():
            floor = Floor(share, rows)
            kept = copy.deepcopy(rows)
            table = table_of(1, floor.size())
            best = [list(floor.best(place, table)) for place in range(floor.size())]
            for place in range(floor.size()):
                doors = floor.doors(place)
                doors.append("more")
                doors[0] = "other"
                floor.best(place, table).append(0)
            told = floor.rows()
            other_told = floor.rows()
            for row in told:
                if row[0] != "end":
                    row[1].clear()
            told.clear()
            self.assertEqual(other_told, kept)
            self.assert_told(floor, share, kept)
            self.assertEqual([floor.best(place, table) for place in range(floor.size())], best)
            self.assertEqual(rows, kept)

    def test_a_list_that_two_rows_share(self):
        doors = [(0, ONE), (1, ONE)]
        floor = Floor(HALF, [("one", doors), ("other", doors)])
        told = floor.rows()
        told[0][1].clear()
        self.assertEqual(told[1][1], [(0, ONE), (1, ONE)])
        self.assertEqual(doors, [(0, ONE), (1, ONE)])
        self.assertEqual(floor.doors(0), [(0, ONE), (1, ONE)])

    def test_the_table_stays(self):
        for share, rows in all_floors():
            floor = Floor(share, rows)
            table = table_of(2, floor.size())
            kept = list(table)
            for place in range(floor.size()):
                floor.look(place, table)
                floor.best(place, table)
                for door in range(len(floor.doors(place))):
                    floor.shown(place, door, table)
            self.assertEqual(table, kept)
            self.assert_told(floor, share, rows)


class Looks(unittest.TestCase):
    def test_by_hand(self):
        share, rows = example()
        floor = Floor(share, rows)
        table = [(10, 1), (4, 1), (-7, 3)]
        self.assertEqual(floor.shown(0, 0, table), (5, 1))
        self.assertEqual(floor.shown(0, 1, table), (-7, 6))
        self.assertEqual(floor.shown(1, 0, table), (6, 1))
        self.assertEqual(floor.shown(1, 1, table), (-11, 6))
        self.assertEqual([floor.look(place, table) for place in range(3)], [(5, 1), (25, 12), (5, 1)])
        self.assertEqual([floor.best(place, table) for place in range(3)], [[0], [], []])

    def test_the_other_wants_little(self):
        doors = [(0, (3, 1)), (1, (1, 1)), (1, (-1, 1)), (0, (0, 1))]
        floor = Floor((1, 3), [("one", doors), ("other", doors)])
        table = [(6, 1), (12, 1)]
        for place in range(2):
            shown = [floor.shown(place, door, table) for door in range(4)]
            self.assertEqual(shown, [(5, 1), (5, 1), (3, 1), (2, 1)])
        self.assertEqual(floor.look(0, table), (5, 1))
        self.assertEqual(floor.best(0, table), [0, 1])
        self.assertEqual(floor.look(1, table), (2, 1))
        self.assertEqual(floor.best(1, table), [3])

    def test_equal_best_doors(self):
        for kind in ("one", "other"):
            floor = Floor(HALF, [(kind, [(1, ONE), (0, HALF), (1, ONE)]), ("end", NOUGHT)])
            self.assertEqual(floor.best(0, [ONE, NOUGHT]), [0, 1, 2])
            self.assertEqual(floor.look(0, [ONE, NOUGHT]), ONE)

    def test_a_share_of_nought_leaves_the_pays(self):
        doors = [(0, (3, 1)), (1, (-5, 2)), (2, (3, 1)), (1, (-5, 2))]
        floor = Floor(NOUGHT, [
            ("one", doors), ("other", doors), ("chance", [(0, ONE, (1, 3)), (1, (4, 1), (2, 3))]), ("end", (9, 4))])
        table = [(10 ** 30, 7), (-10 ** 30, 11), (5, 1), (8, 1)]
        self.assertEqual([floor.look(place, table) for place in range(4)], [(3, 1), (-5, 2), (3, 1), (9, 4)])
        self.assertEqual([floor.best(place, table) for place in range(4)], [[0, 2], [1, 3], [], []])

    def test_an_end_looks_at_its_pay_alone(self):
        floor = Floor((999, 1000), [("end", LEAST_FINEST_PAY)])
        self.assertEqual(floor.look(0, [(77, 1)]), LEAST_FINEST_PAY)
        self.assertEqual(floor.best(0, [(77, 1)]), [])

    def assert_looks(self, floor, rows, table):
        for place, row in enumerate(rows):
            kind = row[0]
            shown = doors_show(floor.share(), row, table)
            told = [floor.shown(place, door, table) for door in range(len(shown))]
            self.assertEqual(told, [plain(number) for number in shown])
            look = row_looks(floor.share(), row, table)
            self.assertEqual(floor.look(place, table), plain(look))
            best = [door for door, number in enumerate(shown) if number == look and kind != "chance"]
            self.assertEqual(floor.best(place, table), best)
            self.assertIs(type(floor.best(place, table)), list)

    def test_against_exact_reckoning(self):
        for seed, (share, rows) in enumerate(all_floors() + any_floors(8, 100)):
            with self.subTest(share=share, rows=rows):
                floor = Floor(share, rows)
                self.assert_looks(floor, rows, table_of(seed, len(rows)))
                self.assert_looks(floor, rows, [NOUGHT] * len(rows))

    def test_many_equal_doors_against_exact_reckoning(self):
        rows = [(kind, [((door * place) % 6, ((door * door) % 3, 2 if (door * door) % 3 == 1 else 1))
                        for door in range(1, 7)])
                for place, kind in enumerate(["one", "other"] * 3)]
        floor = Floor(HALF, rows)
        for seed in range(40):
            self.assert_looks(floor, rows, small_table(seed, 6))


class Turned(Case):
    def test_by_hand(self):
        share, rows = example()
        told = turned(Floor(share, rows + [("other", [(3, (-4, 1))])]))
        self.assert_told(told, (1, 2), [
            ("other", [(1, (-3, 1)), (2, NOUGHT)]), ("chance", [(0, (-1, 1), HALF), (2, (2, 3), HALF)]),
            ("end", (-5, 1)), ("one", [(3, (4, 1))])])

    def test_all_that_is_told(self):
        kinds = {"one": "other", "other": "one", "chance": "chance", "end": "end"}
        for share, rows in all_floors():
            with self.subTest(share=share, rows=rows):
                told = turned(Floor(share, rows))
                self.assertIsInstance(told, Floor)
                asked = []
                for kind, rest in rows:
                    if kind == "end":
                        asked.append(("end", (-rest[0], rest[1])))
                    else:
                        doors = [(door[0], (-door[1][0], door[1][1])) + tuple(door[2:]) for door in rest]
                        asked.append((kinds[kind], doors))
                self.assert_told(told, share, asked)

    def test_turned_twice(self):
        for share, rows in all_floors():
            self.assert_told(turned(turned(Floor(share, rows))), share, rows)

    def test_the_floor_itself_stays(self):
        for share, rows in all_floors():
            floor = Floor(share, rows)
            told = turned(floor)
            self.assert_told(floor, share, rows)
            for row in told.rows():
                if row[0] != "end":
                    row[1].clear()
            self.assert_told(floor, share, rows)

    def test_looks_have_the_other_sign(self):
        for seed, (share, rows) in enumerate(all_floors()):
            floor = Floor(share, rows)
            table = table_of(seed, len(rows))
            other_table = [(-number[0], number[1]) for number in table]
            for place in range(len(rows)):
                look = floor.look(place, table)
                self.assertEqual(turned(floor).look(place, other_table), (-look[0], look[1]))
                self.assertEqual(turned(floor).best(place, other_table), floor.best(place, table))


class Samples(unittest.TestCase):
    def test_the_chances_have_just_the_fault_they_are_told_for(self):
        for fault, samples in WRONG_CHANCES.items():
            for chances in samples:
                with self.subTest(fault=fault, chances=chances):
                    self.assertTrue(all(gcd(*chance) == 1 and chance[1] > 0 for chance in chances))
                    whole = sum(Fraction(*chance) for chance in chances)
                    bottom = lcm(*[chance[1] for chance in chances])
                    if fault.startswith("a common bottom"):
                        self.assertEqual(whole, 1)
                        self.assertTrue(all(chance[0] > 0 for chance in chances))
                        self.assertGreater(bottom, 10 ** 6)
                        single = any(chance[1] > 10 ** 6 for chance in chances)
                        self.assertEqual(single, fault.endswith("by one chance"))
                    else:
                        self.assertLessEqual(bottom, 10 ** 6)

    def test_the_edges_are_among_them(self):
        floors = [Floor(share, rows) for share, rows in named_edges()]
        self.assertLessEqual({1, 12}, {floor.size() for floor in floors})
        self.assertLessEqual({NOUGHT, (999, 1000)}, {floor.share() for floor in floors})
        rows = [row for floor in floors for row in floor.rows()]
        self.assertEqual({row[0] for row in rows}, {"one", "other", "chance", "end"})
        for kind in ("one", "other"):
            self.assertLessEqual({1, 6}, {len(row[1]) for row in rows if row[0] == kind})


if __name__ == "__main__":
    unittest.main()
