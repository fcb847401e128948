import copy
import unittest
from fractions import Fraction
from math import gcd
from random import Random

from chanceduel.errors import ManyAnswers, NoAnswer
from chanceduel.rows import answer_of

GREAT = 10 ** 200 - 1


def products(row, unknowns):
    return sum(number * Fraction(*unknown) for number, unknown in zip(row, unknowns))


def together(weights, rows):
    """The rows, each times its weight, added up column by column."""
    return [sum(weight * row[column] for weight, row in zip(weights, rows)) for column in range(len(rows[0]))]


def any_numbers(source, many, size):
    return [source.randrange(-size, size + 1) for _ in range(many)]


def rank_of(rows):
    """By plain clearing with Python's own fractions."""
    left = [[Fraction(number) for number in row] for row in rows]
    rank = 0
    for column in range(len(rows[0])):
        heads = [row for row in left if row[column] != 0]
        if heads:
            rank = rank + 1
            head = heads[0]
            left = [[own - other * row[column] / head[column] for own, other in zip(row, head)]
                    for row in left if row is not head]
    return rank


class Case(unittest.TestCase):
    def assert_fractions(self, told, many):
        self.assertIs(type(told), list)
        self.assertEqual(len(told), many)
        for one in told:
            self.assertIs(type(one), tuple)
            self.assertEqual([type(part) for part in one], [int, int])
            self.assertGreaterEqual(one[1], 1)
            self.assertEqual(gcd(one[0], one[1]), 1)

    def assert_answers(self, answer, rows):
        self.assert_fractions(answer, len(rows[0]) - 1)
        for row in rows:
            self.assertEqual(products(row, answer), row[-1])

    def assert_still(self, still, rows):
        self.assert_fractions(still, len(rows[0]) - 1)
        self.assertTrue(any(one != (0, 1) for one in still))
        for row in rows:
            self.assertEqual(products(row, still), 0)

    def assert_weights(self, weights, rows):
        self.assertIs(type(weights), list)
        self.assertEqual([type(weight) for weight in weights], [int] * len(rows))
        told = together(weights, rows)
        self.assertEqual(told[:-1], [0] * (len(rows[0]) - 1))
        self.assertNotEqual(told[-1], 0)

    def assert_one(self, rows, asked=None):
        kept = copy.deepcopy(rows)
        answer = answer_of(rows)
        self.assertEqual(rows, kept)
        self.assert_answers(answer, kept)
        if asked is not None:
            self.assertEqual(answer, asked)

    def assert_many(self, rows):
        kept = copy.deepcopy(rows)
        with self.assertRaises(ManyAnswers) as taken:
            answer_of(rows)
        self.assertEqual(rows, kept)
        self.assert_answers(taken.exception.answer, kept)
        self.assert_still(taken.exception.still, kept)

    def assert_none(self, rows):
        kept = copy.deepcopy(rows)
        with self.assertRaises(NoAnswer) as taken:
            answer_of(rows)
        self.assertEqual(rows, kept)
        self.assert_weights(taken.exception.weights, kept)


class OneAnswer(Case):
    def test_by_hand(self):
        self.assert_one([[2, 1]], [(1, 2)])
        self.assert_one([[-4, 6]], [(-3, 2)])
        self.assert_one([[7, 0]], [(0, 1)])
        self.assert_one([[1, 1, 3], [1, -1, 1]], [(2, 1), (1, 1)])
        self.assert_one([[0, 2, 3], [5, 0, -1]], [(-1, 5), (3, 2)])
        self.assert_one([[1, 2, 3], [2, 4, 6], [1, 0, 0], [0, 0, 0]], [(0, 1), (3, 2)])
        self.assert_one([[0, 0, 1, 7], [0, 1, 1, 8], [1, 1, 1, 9]], [(1, 1), (1, 1), (7, 1)])

    def test_one_unknown(self):
        for number in (1, -1, 3, -7, GREAT, -GREAT):
            for whole in (0, 1, -1, 12, GREAT, -GREAT):
                asked = Fraction(whole, number)
                self.assert_one([[number, whole]], [(asked.numerator, asked.denominator)])
                self.assert_one([[number, whole]] * 12, [(asked.numerator, asked.denominator)])
                self.assert_one([[0, 0], [2 * number, 2 * whole], [0, 0]], [(asked.numerator, asked.denominator)])

    def made_rows(self, source, unknowns, many, answer, size):
        """Rows of full rank that the answer, fractions, answers."""
        while True:
            rows = []
            for _ in range(many):
                row = any_numbers(source, unknowns, size)
                whole = sum(number * one for number, one in zip(row, answer))
                rows.append([number * whole.denominator for number in row] + [whole.numerator])
            if rank_of([row[:-1] for row in rows]) == unknowns:
                return rows

    def test_as_many_rows_and_more(self):
        source = Random(3)
        for unknowns in range(1, 13):
            for many in sorted({unknowns, min(unknowns + 1, 12), 12}):
                for size in (1, 3, 10 ** 20):
                    if size == 1 and unknowns > 9:
                        continue
                    answer = [Fraction(source.randrange(-9, 10), source.randrange(1, 5)) for _ in range(unknowns)]
                    rows = self.made_rows(source, unknowns, many, answer, size)
                    with self.subTest(rows=rows):
                        self.assert_one(rows, [(one.numerator, one.denominator) for one in answer])

    def test_heads_of_nought_on_the_way(self):
        # In each order of the rows another one has to lead.
        for shift in range(12):
            rows = [[1 if column == (row + shift) % 12 else 0 for column in range(12)] + [row] for row in range(12)]
            self.assert_one(rows, [((column - shift) % 12, 1) for column in range(12)])
            for row in rows:
                row[(row.index(1) + 5) % 12] = -1 if row[-1] % 2 else 0
            self.assert_one(rows)

    def test_numbers_of_two_hundred_figures(self):
        source = Random(4)
        for unknowns in (1, 2, 12):
            rows = [any_numbers(source, unknowns + 1, GREAT) for _ in range(unknowns)]
            self.assert_one(rows)
        rows = [[GREAT if column == row else -GREAT for column in range(13)] for row in range(12)]
        self.assert_one(rows)

    def test_no_rounding(self):
        rows = [[GREAT, GREAT - 1, 1], [GREAT - 1, GREAT - 2, 0]]
        self.assert_one(rows, [(2 - GREAT, 1), (GREAT - 1, 1)])


class Many(Case):
    def test_by_hand(self):
        for rows in (
                [[0, 0]], [[0, 0]] * 12, [[1, 1, 3]], [[0, 1, 3]], [[1, 0, 3]], [[0, 0, 0]], [[0, 0, 0], [0, 0, 0]],
                [[1, 2, 3], [2, 4, 6]], [[0, 0, 0], [3, 5, 7]], [[1, 1, 1, 1], [1, 1, 2, 1]], [[0] * 13] * 12,
                [[0, 0, 5, 7], [0, 0, 10, 14]], [[0, 3, 0, 7], [0, 0, 2, 1], [0, 3, 2, 8]], [[1] * 13], [[1] * 13] * 12,
                [[2, 4, 6, 1]], [[0, 0, 2, 1], [3, 0, 0, 1]]):
            with self.subTest(rows=rows):
                self.assert_many(rows)

    def test_fewer_rows(self):
        source = Random(5)
        for unknowns in range(2, 13):
            for many in sorted({1, unknowns // 2, unknowns - 1}):
                while True:
                    rows = [any_numbers(source, unknowns + 1, 9) for _ in range(many)]
                    if rank_of([row[:-1] for row in rows]) == many:
                        break
                with self.subTest(rows=rows):
                    self.assert_many(rows)

    def hanging_rows(self, source, unknowns, many, rank, size):
        """So many rows, all of them sums of a few."""
        roots = [any_numbers(source, unknowns + 1, size) for _ in range(rank)]
        while rank_of([row[:-1] for row in roots]) < rank:
            roots = [any_numbers(source, unknowns + 1, size) for _ in range(rank)]
        return [together(any_numbers(source, rank, 3), roots) for _ in range(many)]

    def test_rows_that_hang_on_one_another(self):
        source = Random(6)
        for unknowns in (2, 3, 5, 12):
            for many in (unknowns, 12):
                for rank in sorted({1, unknowns // 2, unknowns - 1}):
                    rows = self.hanging_rows(source, unknowns, many, rank, 9)
                    rows[source.randrange(many)] = [0] * (unknowns + 1)
                    with self.subTest(rows=rows):
                        self.assert_many(rows)

    def test_numbers_of_two_hundred_figures(self):
        source = Random(7)
        self.assert_many([any_numbers(source, 13, GREAT) for _ in range(11)])
        self.assert_many([any_numbers(source, 3, GREAT)])
        rows = self.hanging_rows(source, 12, 12, 11, 10 ** 198)
        self.assertLessEqual(max(abs(number) for row in rows for number in row), GREAT)
        self.assert_many(rows)
        self.assert_many([[GREAT, -GREAT, GREAT], [-GREAT, GREAT, -GREAT]])


class NoAnswerAtAll(Case):
    def test_by_hand(self):
        for rows in (
                [[0, 1]], [[0, -1]], [[0, 0, 5]], [[1, 1], [1, 2]], [[2, 1], [3, 1]], [[1, 1, 1], [1, 1, 2]],
                [[1, 2, 3], [2, 4, 7]], [[0, 0], [0, 3], [0, 0]], [[1, 0, 0], [0, 1, 0], [1, 1, 1]], [[0] * 12 + [1]],
                [[1, 0], [0, 0], [0, 2]], [[0, 0, 0], [1, 1, 1], [2, 2, 3], [5, 0, 0]],
                [[0, 1, 1], [0, 1, 1], [0, 2, 3]], [[1] * 13] * 11 + [[1] * 12 + [2]], [[0] * 13] * 11 + [[0] * 12 + [-4]]):
            with self.subTest(rows=rows):
                self.assert_none(rows)

    def test_one_row_too_many(self):
        source = Random(8)
        for unknowns in range(1, 12):
            for many in sorted({unknowns + 1, 12}):
                while True:
                    rows = [any_numbers(source, unknowns + 1, 9) for _ in range(many)]
                    if rank_of(rows) == unknowns + 1:
                        break
                with self.subTest(rows=rows):
                    self.assert_none(rows)

    def test_none_where_unknowns_are_free_too(self):
        source = Random(9)
        for unknowns in range(2, 13):
            row = any_numbers(source, unknowns, 9)
            other = any_numbers(source, unknowns, 9)
            sums = [2 * own - 3 * beside for own, beside in zip(row, other)]
            with self.subTest(unknowns=unknowns):
                self.assert_none([row + [1], other + [1], sums + [0]])
                self.assert_none([[0] * unknowns + [0], sums + [5], row + [1], other + [1]])

    def test_numbers_of_two_hundred_figures(self):
        source = Random(10)
        self.assert_none([any_numbers(source, 12, GREAT) for _ in range(12)])
        self.assert_none([[GREAT, GREAT], [GREAT, -GREAT]])
        rows = [any_numbers(source, 13, 10 ** 198) for _ in range(11)]
        last = together([1] * 11, rows)
        last[-1] = last[-1] + 1
        self.assert_none(rows + [last])


class AllSmallRows(Case):
    def test_each_is_of_the_right_sort(self):
        # Whether there is one answer hangs on the ranks with and without the sums.
        source = Random(12)
        seen = {"one": 0, "many": 0, "none": 0}
        for _ in range(1500):
            unknowns = source.randrange(1, 5)
            rows = [any_numbers(source, unknowns + 1, 1) for _ in range(source.randrange(1, 6))]
            rank = rank_of([row[:-1] for row in rows])
            with self.subTest(rows=rows):
                if rank_of(rows) > rank:
                    seen["none"] += 1
                    self.assert_none(rows)
                elif rank < unknowns:
                    seen["many"] += 1
                    self.assert_many(rows)
                else:
                    seen["one"] += 1
                    self.assert_one(rows)
        self.assertGreater(min(seen.values()), 100)


class ToldListsAreTheAskersOwn(Case):
    def test_answer(self):
        rows = [[1, 1, 3], [1, -1, 1]]
        told = answer_of(rows)
        told.clear()
        self.assertEqual(answer_of(rows), [(2, 1), (1, 1)])
        self.assertEqual(rows, [[1, 1, 3], [1, -1, 1]])
        told = answer_of(rows)
        rows[0][0] = 7
        rows.pop()
        self.assertEqual(told, [(2, 1), (1, 1)])

    def refusal_of(self, refusal, rows):
        with self.assertRaises(refusal) as taken:
            answer_of(rows)
        return taken.exception

    def test_answer_and_still(self):
        for rows in ([[0, 0, 0]], [[1, 2, 3]], [[0, 0]], [[0, 0, 5, 7], [0, 0, 10, 14]]):
            kept = copy.deepcopy(rows)
            told = self.refusal_of(ManyAnswers, rows)
            told.answer.append("more")
            told.answer[0] = "other"
            self.assert_still(told.still, kept)
            told.still.clear()
            self.assertEqual(rows, kept)
            self.assert_many(rows)
            told = self.refusal_of(ManyAnswers, rows)
            told.still.clear()
            self.assert_answers(told.answer, kept)

    def test_weights(self):
        for rows in ([[0, 1]], [[1, 1], [1, 2]], [[1, 0, 0], [0, 1, 0], [1, 1, 1]]):
            kept = copy.deepcopy(rows)
            told = self.refusal_of(NoAnswer, rows)
            told.weights.append(5)
            told.weights[0] = 9
            self.assertEqual(rows, kept)
            self.assert_none(rows)
            told = self.refusal_of(NoAnswer, rows)
            for row in rows:
                row.clear()
            self.assert_weights(told.weights, kept)


if __name__ == "__main__":
    unittest.main()
