import unittest

from chanceduel.errors import (
    DuelError, ManyAnswers, NoAnswer, NoFloor, NoGoal, NoName, NoNumber,
    NoPlace, NoPlan, NoRow, NoText)


def one_of_each():
    return [
        NoNumber("words"), NoText("words"), NoName("words"), NoFloor("words"),
        NoPlace(3), NoAnswer([1, -1]), ManyAnswers([(1, 2)], [(1, 1)]),
        NoPlan(4), NoGoal(5), NoRow("words")]


class Refusals(unittest.TestCase):
    def test_base_stands_under_value_error(self):
        self.assertEqual(DuelError.__bases__, (ValueError,))

    def test_each_is_taken_by_the_base_and_by_value_error(self):
        for refusal in one_of_each():
            for taker in (DuelError, ValueError):
                with self.subTest(refusal=type(refusal), taker=taker):
                    with self.assertRaises(taker):
                        raise refusal

    def test_each_is_taken_by_none_of_the_others(self):
        refusals = one_of_each()
        self.assertEqual(len({type(refusal) for refusal in refusals}), 10)
        for at, refusal in enumerate(refusals):
            for other_at, other in enumerate(refusals):
                with self.subTest(refusal=type(refusal), other=type(other)):
                    self.assertEqual(isinstance(refusal, type(other)), at == other_at)

    def test_each_has_words(self):
        for refusal in one_of_each():
            with self.subTest(refusal=type(refusal)):
                self.assertNotEqual(str(refusal), "")


class Fields(unittest.TestCase):
    def test_place(self):
        for kind in (NoPlace, NoPlan, NoGoal):
            for place in (0, 11):
                with self.subTest(kind=kind, place=place):
                    self.assertEqual(kind(place).place, place)

    def test_goal_of_any_length(self):
        # Longer than what Python writes as a text of its own accord.
        for number in (10 ** 5000, -10 ** 5000):
            self.assertEqual(NoGoal(number).place, number)

    def test_weights(self):
        self.assertEqual(NoAnswer([2, -1, 0]).weights, [2, -1, 0])

    def test_answer_and_still(self):
        refusal = ManyAnswers([(1, 2), (0, 1)], [(1, 1), (-2, 1)])
        self.assertEqual(refusal.answer, [(1, 2), (0, 1)])
        self.assertEqual(refusal.still, [(1, 1), (-2, 1)])

    def test_lists_are_the_takers_own(self):
        weights = [1, 2]
        refusal = NoAnswer(weights)
        weights.append(3)
        self.assertEqual(refusal.weights, [1, 2])
        refusal.weights.clear()
        self.assertEqual(weights, [1, 2, 3])

    def test_answer_and_still_are_apart(self):
        shared = [(1, 1)]
        refusal = ManyAnswers(shared, shared)
        refusal.answer.append((2, 1))
        self.assertEqual(refusal.still, [(1, 1)])
        self.assertEqual(shared, [(1, 1)])
        shared.clear()
        self.assertEqual(refusal.answer, [(1, 1), (2, 1)])
        self.assertEqual(refusal.still, [(1, 1)])


if __name__ == "__main__":
    unittest.main()
