import copy
import unittest
from fractions import Fraction
from random import Random

from chanceduel.alikes import parted, together
from chanceduel.floors import Floor
from chanceduel.mending import worths
from helper import (
    HALF, NOUGHT, ONE, all_floors, any_chances, chance_to, doubled_floors, example, floors_for_plans, hand_ring, plain,
    small_floors, to)

HANDS = ("one", "other")
TWO = (2, 1)


def tells(row, classes):
    """The pairs (pay, class) of a row's doors, with the sums of their chances at chance's places."""
    pairs = {}
    for door in [] if row[0] == "end" else row[1]:
        pair = (Fraction(*door[1]), classes[door[0]])
        pairs[pair] = pairs.get(pair, 0) + Fraction(*door[2]) if row[0] == "chance" else None
    return pairs


def least_alike(size, is_alike):
    return [min(other for other in range(size) if is_alike(place, other)) for place in range(size)]


def rounds_of(rows):
    """The rounds, place against place, by the point's own words."""
    size = len(rows)
    told = [least_alike(size, lambda one, other: rows[one][0] == rows[other][0] and (
        rows[one][0] != "end" or rows[one][1] == rows[other][1]))]
    while True:
        ahead = told[-1]
        classes = least_alike(size, lambda one, other: ahead[one] == ahead[other] and (
            tells(rows[one], ahead) == tells(rows[other], ahead)))
        if classes == ahead:
            return told
        told.append(classes)


def weighed_floors(seed, many):
    """Floors of chance's places whose doors have few pays and lead to few sorts of places, with chances by lot."""
    source = Random(seed)
    told = []
    for number in range(many):
        bottoms = source.choice([2, 3, 4])
        rows = [("end", NOUGHT), ("end", NOUGHT), ("end", ONE)]
        for _ in range(9):
            doors = [(source.randrange(12), source.choice([NOUGHT, ONE])) for _ in range(bottoms)]
            rows.append(("chance", [door + ((1, bottoms),) for door in doors]))
        if number % 3 == 0:
            rows[5] = ("chance", [door[:2] + (chance,) for door, chance in zip(
                rows[4][1], any_chances(source, bottoms))])
        told.append((HALF, rows))
    return told


def floors_for_alikes():
    return floors_for_plans() + small_floors(70, 60) + doubled_floors(71, 120) + weighed_floors(72, 60)


class Parted(unittest.TestCase):
    def assert_parted(self, rows, told):
        self.assertEqual(parted(Floor(HALF, rows)), told)

    def test_by_hand(self):
        self.assertEqual(parted(Floor(*example())), [[0, 1, 2]])
        self.assert_parted([("one", to(2)), ("one", to(3)), ("end", ONE), ("end", ONE), ("one", to(5)), ("end", TWO)], [
            [0, 0, 2, 2, 0, 5], [0, 0, 2, 2, 4, 5]])

    def test_one_place(self):
        for row in (("end", ONE), ("one", to(0)), ("other", to(0, 0)), ("chance", chance_to(0, 0))):
            self.assert_parted([row], [[0]])

    def test_the_first_round_looks_at_kinds_and_at_the_pays_of_ends(self):
        kinds = [("one", to(0)), ("other", to(0)), ("chance", chance_to(0)), ("end", NOUGHT)]
        self.assert_parted(kinds, [[0, 1, 2, 3]])
        self.assert_parted(kinds + kinds, [[0, 1, 2, 3] * 2])
        ends = [("end", ONE), ("end", TWO), ("end", ONE), ("end", (1, 2)), ("end", (-1, 1)), ("end", TWO)]
        self.assert_parted(ends, [[0, 1, 0, 3, 4, 1]])
        # Of other places no pay counts in the first round.
        self.assertEqual(parted(Floor(HALF, [("one", [(0, ONE)]), ("one", [(1, TWO)])])), [[0, 0], [0, 1]])

    def test_all_alike(self):
        for size in range(1, 13):
            self.assert_parted([("end", TWO)] * size, [[0] * size])
            for hand in HANDS:
                ring = [(hand, to((place + 1) % size, 3 * place % size)) for place in range(size)]
                self.assert_parted(ring, [[0] * size])
            ring = [("chance", chance_to((place + 1) % size, 5 * place % size)) for place in range(size)]
            self.assert_parted(ring, [[0] * size])

    def test_many_rounds(self):
        for kind, lead in (("one", to), ("other", to), ("chance", chance_to)):
            for size in range(2, 13):
                rows = [(kind, lead(place + 1)) for place in range(size - 1)] + [("end", ONE)]
                told = [[0] * (size - 1 - number) + list(range(size - 1 - number, size)) for number in range(size - 1)]
                self.assert_parted(rows, told)
                rows = [("end", ONE)] + [(kind, lead(place)) for place in range(size - 1)]
                told = [[0] + [min(place, 1 + number) for place in range(1, size)] for number in range(size - 1)]
                self.assert_parted(rows, told)

    def test_pays_part(self):
        for kind, tail in (("one", ()), ("other", ()), ("chance", (ONE,))):
            rows = [(kind, [(3, pay) + tail]) for pay in (ONE, TWO, ONE)] + [("end", ONE)]
            self.assert_parted(rows, [[0, 0, 0, 3], [0, 1, 0, 3]])

    def test_a_hands_pairs_are_looked_at_once_in_whatever_order(self):
        for hand in HANDS:
            a, b, c = (4, ONE), (5, ONE), (4, TWO)
            ends = [("end", ONE), ("end", TWO)]
            rows = [(hand, [a, b, c]), (hand, [c, c, a, b, a]), (hand, [b, c, a]), (hand, [a, b, b])] + ends
            self.assert_parted(rows, [[0, 0, 0, 0, 4, 5], [0, 0, 0, 3, 4, 5]])
            rows = [(hand, [a]), (hand, [a, b]), (hand, [a, a]), (hand, [b, a])] + ends
            self.assert_parted(rows, [[0, 0, 0, 0, 4, 5], [0, 1, 0, 1, 4, 5]])

    def test_chances_pairs_with_the_sums_of_chances(self):
        half, third, sixth = (1, 2), (1, 3), (1, 6)
        ends = [("end", ONE), ("end", TWO), ("end", ONE)]
        rows = [
            ("chance", [(5, ONE, half), (6, ONE, half)]),
            ("chance", [(6, ONE, third), (5, ONE, sixth), (6, ONE, sixth), (7, ONE, third)]),
            ("chance", [(5, ONE, third), (6, ONE, (2, 3))]),
            ("chance", [(7, ONE, half), (6, TWO, half)]),
            ("chance", [(6, ONE, half), (7, ONE, half)])] + ends
        self.assert_parted(rows, [[0] * 5 + [5, 6, 5], [0, 0, 2, 3, 0, 5, 6, 5]])
        rows = [("chance", [(2, ONE, (999999, 10 ** 6)), (3, ONE, (1, 10 ** 6))]),
                ("chance", [(2, ONE, (999998, 10 ** 6)), (3, ONE, (2, 10 ** 6))]), ("end", ONE), ("end", TWO)]
        rows[1] = ("chance", [(2, ONE, (499999, 500000)), (3, ONE, (1, 500000))])
        self.assert_parted(rows, [[0, 0, 2, 3], [0, 1, 2, 3]])

    def test_places_once_parted_stay_so(self):
        for share, rows in floors_for_alikes():
            rounds = parted(Floor(share, rows))
            for ahead, classes in zip(rounds, rounds[1:]):
                for place, least in enumerate(classes):
                    self.assertEqual(ahead[place], ahead[least])

    def test_the_share_does_not_count(self):
        for share, rows in floors_for_alikes():
            self.assertEqual(parted(Floor(share, rows)), parted(Floor((4, 5), rows)))

    def test_against_the_words(self):
        many = {}
        for share, rows in floors_for_alikes():
            with self.subTest(rows=rows):
                told = parted(Floor(share, rows))
                self.assertEqual(told, rounds_of(rows))
                self.assertIs(type(told), list)
                for one in told:
                    self.assertIs(type(one), list)
                    self.assertEqual({type(place) for place in one}, {int})
            many[len(told)] = many.get(len(told), 0) + 1
        self.assertTrue(all(many.get(rounds, 0) > 2 for rounds in (1, 2, 3, 4)))


class Together(unittest.TestCase):
    def test_by_hand(self):
        share, rows = example()
        floor, where = together(Floor(share, rows))
        self.assertEqual((floor.share(), floor.rows(), where), (share, rows, [0, 1, 2]))
        half, third, sixth = (1, 2), (1, 3), (1, 6)
        rows = [
            ("end", TWO),
            ("other", [(3, ONE), (0, TWO), (5, ONE), (3, TWO), (0, TWO)]),
            ("chance", [(6, ONE, sixth), (0, ONE, sixth), (5, ONE, third), (3, ONE, third)]),
            ("end", ONE),
            ("chance", [(3, ONE, half), (1, ONE, half)]),
            ("end", ONE),
            ("other", [(5, TWO), (3, ONE), (0, TWO)]),
            ("chance", [(6, ONE, (1, 4)), (5, ONE, half), (1, ONE, (1, 4))])]
        floor, where = together(Floor((4, 5), rows))
        self.assertEqual(where, [0, 1, 2, 3, 4, 3, 1, 4])
        self.assertEqual(floor.share(), (4, 5))
        self.assertEqual(floor.rows(), [
            ("end", TWO),
            ("other", [(3, ONE), (0, TWO), (3, TWO)]),
            ("chance", [(1, ONE, sixth), (0, ONE, sixth), (3, ONE, (2, 3))]),
            ("end", ONE),
            ("chance", [(3, ONE, half), (1, ONE, half)])])

    def test_all_alike(self):
        for size in range(1, 13):
            ends = Floor(NOUGHT, [("end", TWO)] * size)
            self.assertEqual((together(ends)[0].rows(), together(ends)[1]), ([("end", TWO)], [0] * size))
            for hand in HANDS:
                floor, where = together(Floor(HALF, [(hand, to((place + 1) % size, place)) for place in range(size)]))
                self.assertEqual((floor.rows(), where), ([(hand, to(0))], [0] * size))
            rows = [("chance", chance_to((place + 1) % size, place, 0)) for place in range(size)]
            floor, where = together(Floor(HALF, rows))
            self.assertEqual((floor.rows(), where), ([("chance", chance_to(0))], [0] * size))

    def test_no_two_alike(self):
        for rows in (hand_ring(12), [("end", (place, 1)) for place in range(12)]):
            floor, where = together(Floor(HALF, rows))
            self.assertEqual((floor.size(), where), (12, list(range(12))))

    def joined_row(self, rows, place, classes, leasts):
        """The row of the class of this least place, by the point's own words."""
        kind, told = rows[place]
        if kind == "end":
            return (kind, told)
        pairs = list(dict.fromkeys((door[1], classes[door[0]]) for door in told))
        doors = [(leasts.index(least), pay) for pay, least in pairs]
        if kind != "chance":
            return (kind, doors)
        sums = [sum(Fraction(*door[2]) for door in told if (door[1], classes[door[0]]) == pair) for pair in pairs]
        return (kind, [door + (plain(number),) for door, number in zip(doors, sums)])

    def test_against_the_words(self):
        fewer = 0
        for share, rows in floors_for_alikes():
            classes = rounds_of(rows)[-1]
            leasts = sorted(set(classes))
            told = together(Floor(share, rows))
            with self.subTest(share=share, rows=rows):
                self.assertEqual([type(part) for part in told], [Floor, list])
                self.assertIs(type(told), tuple)
                self.assertEqual(told[0].share(), share)
                self.assertEqual(told[0].rows(), [self.joined_row(rows, place, classes, leasts) for place in leasts])
                self.assertEqual(told[1], [leasts.index(least) for least in classes])
            fewer += len(leasts) < len(rows)
        self.assertGreater(fewer, 100)

    def test_alike_places_have_the_same_worths(self):
        for share, rows in floors_for_alikes():
            table = worths(Floor(share, rows))
            floor, where = together(Floor(share, rows))
            joined = worths(floor)
            with self.subTest(share=share, rows=rows):
                self.assertEqual(table, [joined[number] for number in where])
                self.assertEqual(table, [table[least] for least in parted(Floor(share, rows))[-1]])

    def test_once_more_nothing_comes_together(self):
        for share, rows in floors_for_alikes():
            floor = together(Floor(share, rows))[0]
            again, where = together(floor)
            self.assertEqual((again.share(), again.rows()), (floor.share(), floor.rows()))
            self.assertEqual(where, list(range(floor.size())))
            self.assertEqual(parted(floor)[-1], where)


class NothingChanges(unittest.TestCase):
    def test_the_floor_stays(self):
        for share, rows in all_floors() + doubled_floors(73, 30):
            floor = Floor(share, rows)
            parted(floor)
            together(floor)
            self.assertEqual((floor.share(), floor.rows()), (share, rows))

    def test_told_rounds_are_changed(self):
        for share, rows in all_floors() + doubled_floors(73, 30):
            floor = Floor(share, rows)
            told = parted(floor)
            kept = copy.deepcopy(told)
            other_told = parted(floor)
            for number, one in enumerate(list(told)):
                one.clear()
                self.assertEqual(told, [[]] * (number + 1) + kept[number + 1:])
            told.clear()
            self.assertEqual(other_told, kept)
            self.assertEqual(parted(floor), kept)

    def test_what_was_put_together_is_changed(self):
        for share, rows in all_floors() + doubled_floors(73, 30):
            floor = Floor(share, rows)
            told = together(floor)
            kept_rows, kept_where = told[0].rows(), list(told[1])
            other_told = together(floor)
            told[1].clear()
            for row in told[0].rows():
                if row[0] != "end":
                    row[1].clear()
            told[0].rows().clear()
            for one in (told, other_told, together(floor)):
                self.assertEqual((one[0].share(), one[0].rows()), (share, kept_rows))
            for one in (other_told, together(floor)):
                self.assertEqual(one[1], kept_where)


if __name__ == "__main__":
    unittest.main()
