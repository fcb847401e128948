"""What holds over the whole program: its interface, and that nothing that is told, handed in or asked changes it."""

import copy
import importlib
import inspect
import unittest
from random import Random

from chanceduel.alikes import parted, together
from chanceduel.answers import against
from chanceduel.desk import Desk
from chanceduel.errors import DuelError, NoAnswer, NoGoal, NoName, NoPlan, NoRow
from chanceduel.floors import Floor, turned
from chanceduel.floortexts import read_floor, show_floor
from chanceduel.mending import mended, worths
from chanceduel.plans import first_plan, worths_of
from chanceduel.plays import brought, mean_of, played
from chanceduel.reach import chances
from chanceduel.rows import answer_of
from chanceduel.shuts import draw
from helper import HALF, all_floors, any_plan, doubled_floors, ends_of, hand_floors, opposite, small_floors

HANDS = ("one", "other")
INTERFACE = {
    "parts": {"fraction": "top bottom", "plus": "one other", "minus": "one other", "times": "one other",
              "over": "one other", "under": "one other"},
    "texts": {"show_fraction": "one", "read_fraction": "text"},
    "floors": {"Floor": "share rows", "turned": "floor"},
    "floortexts": {"show_floor": "floor names", "read_floor": "text"},
    "rows": {"answer_of": "rows"},
    "plans": {"first_plan": "floor hand", "worths_of": "floor plan_one plan_other"},
    "answers": {"against": "floor hand plan"},
    "mending": {"mended": "floor hand start", "worths": "floor"},
    "shuts": {"draw": "floor goals"},
    "reach": {"chances": "floor goals"},
    "alikes": {"parted": "floor", "together": "floor"},
    "plays": {"played": "floor place picks", "brought": "floor table place door",
              "mean_of": "floor plan_one plan_other place turns"},
    "desk": {"Desk": ""}}
METHODS = {
    Floor: {"size": "", "share": "", "kind": "place", "doors": "place", "pay": "place", "rows": "",
            "shown": "place door table", "look": "place table", "best": "place table"},
    Desk: {"say": "row"}}
ERRORS = "NoNumber NoText NoName NoFloor NoPlace NoAnswer ManyAnswers NoPlan NoGoal NoRow".split()


class Interface(unittest.TestCase):
    def test_names_and_arguments(self):
        for module, names in INTERFACE.items():
            for name, arguments in names.items():
                with self.subTest(module=module, name=name):
                    told = getattr(importlib.import_module(f"chanceduel.{module}"), name)
                    self.assertEqual(list(inspect.signature(told).parameters), arguments.split())

    def test_methods(self):
        for kind, names in METHODS.items():
            for name, arguments in names.items():
                with self.subTest(kind=kind, name=name):
                    told = list(inspect.signature(getattr(kind, name)).parameters)
                    self.assertEqual(told, ["self"] + arguments.split())

    def test_no_refusal_stands_under_another_one(self):
        errors = importlib.import_module("chanceduel.errors")
        for name in ERRORS:
            self.assertEqual(getattr(errors, name).__bases__, (DuelError,))
        self.assertEqual(DuelError.__bases__, (ValueError,))


class World:
    """A floor and what is handed in with it: everything that can be asked of it, and the same once more."""

    def __init__(self, seed, share, rows):
        source = Random(seed)
        self.floor = Floor(share, rows)
        self.names = [sign * 2 for sign in "abcdefghijkl"[:len(rows)]]
        self.plans = {hand: any_plan(source, rows, hand) for hand in HANDS}
        self.goals = ends_of(rows)
        self.picks = [source.randrange(-9, 10) for _ in range(12)]
        self.table = [(source.randrange(-9, 10), 1) for _ in rows]
        self.place = source.randrange(len(rows))
        self.numbers = [[2, 1, 3], [1, -1, 1]]
        self.desk = Desk()
        self.desk.say(f"floor f {show_floor(self.floor, self.names)}")

    def handed(self):
        return [self.names, self.plans, self.goals, self.picks, self.table, self.numbers]

    def asks(self):
        floor, plans = self.floor, self.plans
        told = [
            floor.rows, lambda: floor.doors(self.place), lambda: floor.best(self.place, self.table),
            lambda: floor.look(self.place, self.table), lambda: shown(turned(floor)),
            lambda: shown(read_floor(show_floor(floor, self.names))), lambda: answer_of(self.numbers),
            lambda: worths_of(floor, plans["one"], plans["other"]), lambda: worths(floor),
            lambda: draw(floor, self.goals), lambda: chances(floor, self.goals), lambda: chances(floor, []),
            lambda: parted(floor), lambda: shown(together(floor)), lambda: played(floor, self.place, self.picks),
            lambda: [brought(floor, self.table, self.place, door) for door in range(len(floor.doors(self.place)))],
            lambda: mean_of(floor, plans["one"], plans["other"], self.place, 3),
            lambda: self.desk.say("show f"), lambda: self.desk.say("alike f"),
            lambda: self.desk.say(f"worth f {self.names[self.place]}")]
        for hand in HANDS:
            told += [
                lambda hand=hand: first_plan(floor, hand), lambda hand=hand: against(floor, hand, plans[hand]),
                lambda hand=hand: mended(floor, hand), lambda hand=hand: mended(floor, hand, plans[hand]),
                lambda hand=hand: self.desk.say(f"plan f {hand}")]
        return told

    def refusals(self):
        """Asks that are refused."""
        size = self.floor.size()
        told = [
            (NoRow, lambda: self.desk.say("show")), (NoName, lambda: self.desk.say("drop g")),
            (NoName, lambda: self.desk.say("floor f share 0; a end 1; a end 1")),
            (NoName, lambda: self.desk.say("turn f g")), (NoGoal, lambda: draw(self.floor, self.goals + [size])),
            (NoGoal, lambda: chances(self.floor, self.goals + [-1])),
            (NoAnswer, lambda: answer_of(self.numbers + [[0, 0, 1]]))]
        for hand in HANDS:
            if self.plans[hand]:
                wrong = {**self.plans, hand: {}}
                told += [
                    (NoPlan, lambda wrong=wrong: worths_of(self.floor, wrong["one"], wrong["other"])),
                    (NoPlan, lambda wrong=wrong: mean_of(self.floor, wrong["one"], wrong["other"], self.place, 2)),
                    (NoPlan, lambda hand=hand: against(self.floor, hand, {size: 0})),
                    (NoPlan, lambda hand=hand: mended(self.floor, hand, {place: 6 for place in self.plans[hand]}))]
        return told


def shown(told):
    """The told with floors as their shares and rows, so that two of them can be held against one another."""
    if type(told) is Floor:
        return (told.share(), told.rows())
    return tuple([shown(part) for part in told]) if type(told) is tuple else told


def wreck(told):
    """Changes every list and dict that is in the told."""
    if type(told) in (list, tuple, dict):
        for part in list(told.values() if type(told) is dict else told):
            wreck(part)
    if type(told) is list:
        told[:] = ["wrecked"] * 3
    elif type(told) is dict:
        told.update({place: 99 for place in range(-2, 14)})


def worlds():
    floors = all_floors()[::3] + small_floors(120, 20) + hand_floors(121, 3) + doubled_floors(122, 10)
    return [World(seed, share, rows) for seed, (share, rows) in enumerate(floors)]


class NothingChanges(unittest.TestCase):
    def test_whatever_was_asked_ahead(self):
        source = Random(123)
        for world in worlds():
            asks = world.asks()
            handed = copy.deepcopy(world.handed())
            told = [ask() for ask in asks]
            for _ in range(2):
                order = source.sample(range(len(asks)), len(asks))
                self.assertEqual([asks[number]() for number in order], [told[number] for number in order])
            self.assertEqual(world.handed(), handed)

    def test_what_was_told_is_wrecked(self):
        for world in worlds():
            handed = copy.deepcopy(world.handed())
            kept = [copy.deepcopy(ask()) for ask in world.asks()]
            for ask, answer in zip(world.asks(), kept):
                wreck(ask())
                self.assertEqual(ask(), answer)
            for ask in world.asks():
                wreck(ask())
            self.assertEqual([ask() for ask in world.asks()], kept)
            self.assertEqual(world.handed(), handed)

    def test_what_was_handed_in_is_wrecked(self):
        for world in worlds():
            asks = world.asks()
            told = [ask() for ask in asks]
            kept = copy.deepcopy(told)
            text = world.desk.say("show f")
            wreck(world.handed())
            self.assertEqual(told, kept)
            self.assertEqual(world.desk.say("show f"), text)

    def test_what_is_refused_changes_nothing(self):
        for world in worlds():
            told = [ask() for ask in world.asks()]
            handed = copy.deepcopy(world.handed())
            for kind, ask in world.refusals():
                for _ in range(2):
                    with self.assertRaises(DuelError) as taken:
                        ask()
                    self.assertIs(type(taken.exception), kind)
            self.assertEqual([ask() for ask in world.asks()], told)
            self.assertEqual(world.handed(), handed)

    def test_a_floor_put_together_is_the_askers_own(self):
        for world in worlds():
            one, other = together(world.floor), together(world.floor)
            kept = shown(other)
            wreck(one[0].rows())
            wreck(one[1])
            wreck(turned(other[0]).rows())
            self.assertEqual(shown(other), kept)
            self.assertEqual(shown(together(world.floor)), kept)


class ThePromise(unittest.TestCase):
    def test_worths_with_plans_from_either_side(self):
        for world in worlds():
            table = worths(world.floor)
            plans = {hand: mended(world.floor, hand)[0] for hand in HANDS}
            self.assertEqual(worths_of(world.floor, plans["one"], plans["other"]), table)
            for hand in HANDS:
                answer, held = against(world.floor, hand, plans[hand])
                self.assertEqual(held, table)
                self.assertEqual(against(world.floor, opposite(hand), answer)[0].keys(), plans[hand].keys())

    def test_put_together_the_chances_stay(self):
        # Ends of one pay come together: so these goals are all ends of some pays.
        for share, rows in doubled_floors(124, 60) + [(HALF, rows) for _, rows in small_floors(125, 30)]:
            floor = Floor(share, rows)
            joined, where = together(floor)
            for pay in {row[1] for row in rows if row[0] == "end"}:
                goals = [place for place in ends_of(rows) if rows[place][1] == pay]
                joined_goals = sorted({where[goal] for goal in goals})
                table = chances(joined, joined_goals)[0]
                self.assertEqual(chances(floor, goals)[0], [table[number] for number in where])


if __name__ == "__main__":
    unittest.main()
