import unittest
from random import Random

from chanceduel.alikes import parted, together
from chanceduel.answers import against
from chanceduel.desk import Desk
from chanceduel.errors import DuelError, NoFloor, NoGoal, NoName, NoPlace, NoPlan, NoRow, NoText
from chanceduel.floors import Floor, turned
from chanceduel.floortexts import read_floor, show_floor
from chanceduel.mending import worths
from chanceduel.plans import worths_of
from chanceduel.plays import mean_of, played
from chanceduel.reach import chances
from chanceduel.texts import show_fraction
from helper import (
    EXAMPLE_TEXT, all_floors, all_goals, any_plan, doors_of_hand, doubled_floors, floors_for_plans, hand_ring, opposite,
    small_floors)

HANDS = ("one", "other")
# Names that are beginnings of one another, and the words of rows and of texts.
NAMES = """a aa aaa ab b ba floor drop turn join show worth plan pair hold reach alike play mean one other chance end
    share ok new text abcdefgh abcdefg zzzzzzzz""".split()
FIRST = ("share 1/2; a one aa 3, c 0; aa other a 1, b 0, c 2; b chance a 1 1/2, c -2/3 1/2; c end 5; d end -1; "
         "one one aa 0, d 1")
ENDS = "share 0; x end 1; y end 1; z end 2"
SIXTY = "9" * 60


def a_desk():
    """A desk with a floor f (the one's places 0 and 5, the other's 1, the ends 3 and 4), and one of ends alone."""
    desk = Desk()
    desk.say(f"floor f {FIRST}")
    desk.say(f"floor ends {ENDS}")
    return desk


def what_stands(desk):
    """The texts of all that stands by one of the names."""
    told = {}
    for name in NAMES + ["f", "g", "ends"]:
        try:
            told[name] = desk.say(f"show {name}")
        except NoName:
            pass
    return told


def doors_text(plan):
    return ",".join([str(plan[place]) for place in sorted(plan)]) or "-"


def table_text(table):
    return " ".join([show_fraction(number) for number in table])


def named_floors(seed, floors):
    """The floors with names for their places by lot."""
    source = Random(seed)
    return [(Floor(share, rows), source.sample(NAMES, len(rows))) for share, rows in floors]


def desks(seed, floors):
    """Desks with one floor each, as tuples (desk, name of the floor, floor, names)."""
    source = Random(seed)
    told = []
    for floor, names in named_floors(seed, floors):
        desk = Desk()
        name = source.choice(NAMES)
        desk.say(f"floor {name} {show_floor(floor, names)}")
        told.append((desk, name, floor, names))
    return told


class Answers(unittest.TestCase):
    def assert_said(self, desk, row, told):
        with self.subTest(row=row):
            self.assertEqual(desk.say(row), told)
            self.assertIs(type(desk.say(row)), str)

    def test_by_hand(self):
        desk = Desk()
        for row, told in (
                (f"floor f {EXAMPLE_TEXT}", "ok"), ("show f", EXAMPLE_TEXT), ("worth f a", "89/21"),
                ("worth f c", "5"), ("plan f one", "0"), ("plan f other", "-"), ("pair f 1 -", "5/2 49/24 5"),
                ("hold f other -", "89/21 52/21 5"), ("hold f one 1", "5/2 49/24 5"), ("reach f c", "1 1 1"),
                ("reach f -", "0 0 0"), ("alike f", "a b c"), ("play f a 0,1,7,7", "c 47/12"), ("play f a -", "a 0"),
                ("play f c -", "c 5"), ("mean f a 0 0 -", "0"), ("mean f a 2 0 -", "89/24"), ("turn g f", "ok"),
                ("show g", "share 1/2; a other b -3, c 0; b chance a -1 1/2, c 2/3 1/2; c end -5"),
                ("join g f", "ok"), ("show g", EXAMPLE_TEXT), ("drop g", "ok")):
            with self.subTest(row=row):
                self.assertEqual(desk.say(row), told)

    def test_floor_and_show(self):
        for desk, name, floor, names in desks(100, floors_for_plans()):
            self.assert_said(desk, f"show {name}", show_floor(floor, names))
            self.assert_said(desk, f"floor {name} {show_floor(floor, names)}", "ok")

    def test_worth(self):
        for desk, name, floor, names in desks(101, floors_for_plans()):
            table = worths(floor)
            for place in (0, len(names) // 2, len(names) - 1):
                self.assert_said(desk, f"worth {name} {names[place]}", show_fraction(table[place]))

    def test_plan(self):
        for desk, name, floor, names in desks(102, floors_for_plans()):
            table = worths(floor)
            for hand in HANDS:
                told = desk.say(f"plan {name} {hand}")
                places = list(doors_of_hand(floor.rows(), hand))
                with self.subTest(rows=floor.rows(), hand=hand):
                    if not places:
                        self.assertEqual(told, "-")
                        continue
                    doors = told.split(",")
                    self.assertEqual(len(doors), len(places))
                    for place, door in zip(places, doors):
                        self.assertIn(door, [str(best) for best in floor.best(place, table)])

    def test_a_told_plan_gets_the_worths(self):
        for desk, name, floor, names in desks(103, all_floors()):
            plans = [desk.say(f"plan {name} {hand}") for hand in HANDS]
            self.assert_said(desk, f"pair {name} {plans[0]} {plans[1]}", table_text(worths(floor)))
            for hand, plan in zip(HANDS, plans):
                self.assert_said(desk, f"hold {name} {hand} {plan}", table_text(worths(floor)))

    def test_pair_and_hold(self):
        source = Random(104)
        for desk, name, floor, names in desks(104, floors_for_plans()):
            plans = {hand: any_plan(source, floor.rows(), hand) for hand in HANDS}
            texts = [doors_text(plans[hand]) for hand in HANDS]
            told = worths_of(floor, plans["one"], plans["other"])
            self.assert_said(desk, f"pair {name} {texts[0]} {texts[1]}", table_text(told))
            for hand, text in zip(HANDS, texts):
                told = against(floor, hand, plans[hand])[1]
                self.assert_said(desk, f"hold {name} {hand} {text}", table_text(told))

    def test_reach(self):
        for desk, name, floor, names in desks(105, floors_for_plans() + small_floors(105, 40)):
            for goals in all_goals(floor.rows())[:6]:
                text = ",".join([names[goal] for goal in goals]) or "-"
                self.assert_said(desk, f"reach {name} {text}", table_text(chances(floor, goals)[0]))

    def test_alike(self):
        for desk, name, floor, names in desks(106, floors_for_plans() + doubled_floors(106, 40)):
            told = " ".join([names[least] for least in parted(floor)[-1]])
            self.assert_said(desk, f"alike {name}", told)

    def test_play(self):
        source = Random(107)
        for desk, name, floor, names in desks(107, floors_for_plans()):
            for many in (0, 1, 5, 100):
                picks = [source.choice([source.randrange(-9, 9), 10 ** 60 - 1, 1 - 10 ** 60]) for _ in range(many)]
                place = source.randrange(len(names))
                _, last, gathered = played(floor, place, picks)
                text = ",".join([str(pick) for pick in picks]) or "-"
                told = f"{names[last]} {show_fraction(gathered)}"
                self.assert_said(desk, f"play {name} {names[place]} {text}", told)

    def test_mean(self):
        source = Random(108)
        for desk, name, floor, names in desks(108, floors_for_plans()):
            plans = [any_plan(source, floor.rows(), hand) for hand in HANDS]
            place = source.randrange(len(names))
            for turns in (0, 1, source.randrange(2, 11), 12):
                told = show_fraction(mean_of(floor, *plans, place, turns)[0])
                row = f"mean {name} {names[place]} {turns} {doors_text(plans[0])} {doors_text(plans[1])}"
                self.assert_said(desk, row, told)

    def test_many_places(self):
        floor = Floor((1, 2), hand_ring(12))
        text = show_floor(floor, [sign * 8 for sign in "abcdefghijkl"])
        desk = Desk()
        desk.say(f"floor f {text}")
        self.assertEqual(desk.say("hold f one 0,1,2,3,4,5").split(" "), [
            show_fraction(worth) for worth in against(floor, "one", {2 * door: door for door in range(6)})[1]])
        self.assertEqual(desk.say("reach f -"), " ".join(["0"] * 12))


class Keeping(unittest.TestCase):
    def refused(self, desk, row):
        with self.assertRaises(DuelError) as taken:
            desk.say(row)
        return taken.exception

    def assert_nothing_by(self, desk, name):
        self.assertIs(type(self.refused(desk, f"show {name}")), NoName)

    def test_a_new_desk_has_no_floor(self):
        self.assertEqual(what_stands(Desk()), {})
        for name in NAMES:
            self.assert_nothing_by(Desk(), name)

    def test_floors_by_every_sort_of_name(self):
        desk = Desk()
        texts = [show_floor(floor, names) for floor, names in named_floors(109, small_floors(109, len(NAMES)))]
        for name, text in zip(NAMES, texts):
            self.assertEqual(desk.say(f"floor {name} {text}"), "ok")
        self.assertEqual(what_stands(desk), dict(zip(NAMES, texts)))
        for number, name in enumerate(NAMES):
            self.assertEqual(desk.say(f"drop {name}"), "ok")
            self.assertEqual(what_stands(desk), dict(zip(NAMES[number + 1:], texts[number + 1:])))

    def test_names_that_are_beginnings_of_one_another(self):
        desk = Desk()
        desk.say("floor aa share 0; b end 1; bb end 2; bbb end 3")
        for name in ("a", "aaa", "aab"):
            self.assert_nothing_by(desk, name)
        desk.say("floor a share 0; b end 4; bb end 5")
        self.assertEqual([desk.say(f"worth aa {name}") for name in ("b", "bb", "bbb")], ["1", "2", "3"])
        self.assertEqual([desk.say(f"worth a {name}") for name in ("b", "bb")], ["4", "5"])
        self.assertIs(type(self.refused(desk, "worth a bbb")), NoName)
        self.assertEqual(desk.say("reach aa bb,bbb"), "0 1 1")

    def test_places_called_like_words(self):
        desk = Desk()
        desk.say("floor floor share 1/2; one one other 1, end 2; other other one 1; end end 4; share end 3")
        self.assertEqual(desk.say("worth floor one"), "4")
        self.assertEqual(desk.say("reach floor end,share"), "1 1 1 1")
        self.assertEqual(desk.say("alike floor"), "one other end share")
        self.assertEqual(desk.say("play floor other 0,1"), "end 3")

    def test_told_anew(self):
        desk = a_desk()
        self.assertEqual(desk.say("floor f share 0; q end 3"), "ok")
        self.assertEqual(desk.say("show f"), "share 0; q end 3")
        self.assertIs(type(self.refused(desk, "worth f a")), NoName)
        self.assertEqual(desk.say("show ends"), ENDS)
        for text in ("share 0; q end 3/6", "share 1; q end 3", "share 0; q one r 1", "share 0; q chance q 1 1/2", ""):
            self.refused(desk, f"floor f {text}")
            self.assertEqual(desk.say("show f"), "share 0; q end 3")

    def test_dropped(self):
        desk = a_desk()
        self.assertEqual(desk.say("drop f"), "ok")
        self.assert_nothing_by(desk, "f")
        self.assertIs(type(self.refused(desk, "drop f")), NoName)
        self.assertEqual(desk.say("show ends"), ENDS)
        self.assertEqual(desk.say("floor f share 0; q end 3"), "ok")
        self.assertEqual(desk.say("show f"), "share 0; q end 3")

    def test_turned(self):
        for desk, name, floor, names in desks(110, all_floors()):
            text = show_floor(floor, names)
            turned_text = show_floor(turned(floor), names)
            self.assertEqual(desk.say(f"turn new {name}"), "ok")
            if name == "new":
                self.assertEqual(what_stands(desk), {"new": turned_text})
                continue
            self.assertEqual(what_stands(desk), {name: text, "new": turned_text})
            self.assertEqual(desk.say(f"turn {name} {name}"), "ok")
            self.assertEqual(what_stands(desk), {name: turned_text, "new": turned_text})
            self.assertEqual(desk.say(f"turn {name} new"), "ok")
            self.assertEqual(what_stands(desk), {name: text, "new": turned_text})

    def test_joined(self):
        fewer = 0
        for desk, name, floor, names in desks(111, all_floors() + doubled_floors(111, 60)):
            text = show_floor(floor, names)
            least_names = [names[least] for least in sorted(set(parted(floor)[-1]))]
            joined_text = show_floor(together(floor)[0], least_names)
            self.assertEqual(desk.say(f"join ok {name}"), "ok")
            if name != "ok":
                self.assertEqual(what_stands(desk), {name: text, "ok": joined_text})
                self.assertEqual(desk.say(f"join {name} {name}"), "ok")
                self.assertEqual(desk.say(f"show {name}"), joined_text)
            self.assertEqual(desk.say("show ok"), joined_text)
            self.assertEqual(desk.say("alike ok"), " ".join(least_names))
            fewer += len(least_names) < len(names)
        self.assertGreater(fewer, 30)

    def test_joined_by_hand(self):
        desk = Desk()
        desk.say("floor f share 1/2; z end 1; b one z 1, y 1; y end 1; a one b 0; c one y 1")
        self.assertEqual(desk.say("alike f"), "z b z a b")
        self.assertEqual(desk.say("join g f"), "ok")
        self.assertEqual(desk.say("show g"), "share 1/2; z end 1; b one z 1; a one b 0")
        self.assertIs(type(self.refused(desk, "worth g c")), NoName)
        self.assertEqual(desk.say("worth g b"), desk.say("worth f c"))

    def test_onto_a_name_that_stands(self):
        for word, tell in (("turn", turned), ("join", lambda floor: together(floor)[0])):
            desk = a_desk()
            self.assertEqual(desk.say(f"{word} ends f"), "ok")
            floor, names = read_floor(FIRST)
            self.assertEqual(what_stands(desk), {"f": FIRST, "ends": show_floor(tell(floor), names)})
            self.assertEqual(desk.say("drop f"), "ok")
            self.assertEqual(what_stands(desk), {"ends": show_floor(tell(floor), names)})

    def test_two_desks(self):
        one = a_desk()
        other = Desk()
        self.assert_nothing_by(other, "f")
        other.say("floor f share 0; q end 3")
        other.say("floor g share 0; r end 4")
        one.say("turn ends ends")
        self.assertEqual(one.say("show f"), FIRST)
        self.assert_nothing_by(one, "g")
        one.say("drop f")
        self.assertEqual(what_stands(other), {"f": "share 0; q end 3", "g": "share 0; r end 4"})
        self.assertEqual(what_stands(Desk()), {})

    def test_the_same_is_told_as_often_as_it_is_asked(self):
        asks = ["show f", "worth f aa", "plan f one", "plan f other", "pair f 0,1 2", "hold f one 1,0",
                "hold f other 1", "reach f c", "reach f -", "alike f", "play f a 0,1,2,3", "mean f aa 7 1,1 0",
                "show ends", "alike ends", "reach ends x,z"]
        desk = a_desk()
        told = [desk.say(ask) for ask in asks]
        self.assertEqual([desk.say(ask) for ask in reversed(asks)], told[::-1])
        for ask, answer in zip(asks, told):
            self.assertEqual(a_desk().say(ask), answer)
        for row in ("turn g f", "join g f", "floor h share 0; x end 0", "drop h", "turn g g", "drop g"):
            desk.say(row)
            self.assertEqual([desk.say(ask) for ask in asks], told)


NO_ROWS = (
    "", " ", "  ", "\n", "f", "ok", "Show f", "SHOW f", "shows f", "sho f", "show\nf", "show\n f", "\nshow f", "show",
    "show f f", "show f ", " show f", "show  f", "floor", "floor g", "floor\n g share 0; a end 1",
    "floors g share 0; a end 1", " floor g share 0; a end 1", "drop", "drop f ends", "drop f ", "drop  f", "turn",
    "turn g", "turn g f f", "turn g  f", "turn g f ", "join", "join g", "join g f f", "join g f ", "worth", "worth f",
    "worth f a a", "worth f a ", "worth  f a", "plan", "plan f", "plan f one one", "plan f one ", "plan f two",
    "plan f ", "plan f One", "plan f one\n", "plan f on", "plan f ones", "plan f chance", "plan f end", "plan f -",
    "plan f one,other", "pair", "pair f", "pair f 0,0", "pair f 0,0 0 0", "pair f 0,0  0", "pair f 0,0 0 ", "hold",
    "hold f", "hold f one", "hold f one 0,0 0", "hold f one 0,0 ", "hold f two 0,0", "hold f  0,0", "hold f chance 0",
    "hold f 0,0 one", "hold f one\n 0,0", "reach", "reach f", "reach f c d", "reach f c ", "reach  f c",
    "reach f c, d", "alike", "alike f f", "alike f ", "play", "play f", "play f a", "play f a 0 0", "play f a 0 ",
    "play f  a 0", "play f a 0, 0", "mean", "mean f a", "mean f a 1 0,0", "mean f a 1 0,0 0 0", "mean f a 1 0,0 0 ",
    "mean f a  1 0,0 0", "meanf a 1 0,0 0 0")
NO_NAMES = (
    "floor G share 0; a end 1", "floor  share 0; a end 1", "floor abcdefghi share 0; a end 1",
    "floor g1 share 0; a end 1", "floor g\n share 0; a end 1", "floor - share 0; a end 1",
    "floor gG share 0; a end 1", "drop g", "drop F", "drop ", "drop ff", "drop f\n", "drop en", "turn G f", "turn  f",
    "turn g\n f", "turn abcdefghi f", "turn g g", "turn g F", "turn g ", "turn g ff", "turn f g", "turn -g f",
    "join G f", "join  f", "join g g", "join g ", "join f g", "join g f\n", "join gggggggggg f", "show g", "show F",
    "show ", "show ff", "show f\n", "show f;", "show endss", "show end", "worth g a", "worth f A", "worth f ",
    "worth f aaa", "worth f e", "worth f f", "worth f a\n", "worth f 0", "worth ends a", "worth  a", "plan g one",
    "plan  one", "plan F other", "plan f\n one", "pair g 0,0 0", "pair  0,0 0", "hold g one 0,0", "hold  other 0",
    "reach g c", "reach  c", "reach f e", "reach f c,e", "reach f e,c", "reach f ", "reach f ,", "reach f c,",
    "reach f ,c", "reach f c,,d", "reach f -,c", "reach f c,-", "reach f --", "reach f C", "reach f c\n",
    "reach f c;d", "reach f 3", "reach f f", "reach ends c", "reach f cd", "alike g", "alike ", "alike F",
    "play g a 0", "play f e 0", "play f  0", "play f A 0", "play f 0 0", "mean g a 1 0,0 0", "mean f e 1 0,0 0",
    "mean f  1 0,0 0", "mean f 0 1 0,0 0", "floor g share 0; a end 1; a end 1", "floor g share 0; a one b 1",
    "floor f share 0; a end 1; b other a 0, c 0")
NO_TEXTS = (
    "floor g ", "floor g  ", "floor g  share 0; a end 1", "floor g share 0; a end 1 ", "floor g share 0; a end 1\n",
    "floor g share 0; a end 01", "floor g share 0;a end 1", "floor g share 2/4; a end 1", "floor g share",
    "floor g a", "floor g share 0; a one", "floor g share 0; a one A 1", "floor g share 0; ", "floor g ok",
    "floor f share -0; a end 1", "pair f 0 0", "pair f 0,0,0 0", "pair f 0,0 0,0", "pair f 0,0 -", "pair f - 0",
    "pair f - -", "pair f 00,0 0", "pair f 0,00 0", "pair f 0,0 00", "pair f 01,0 0", "pair f 0,0 01",
    "pair f -1,0 0", "pair f 0,0 -1", "pair f 0,-0 0", "pair f 0,,0 0", "pair f ,0 0", "pair f 0, 0", "pair f 0,0, 0",
    "pair f ,0,0 0", "pair f  0", "pair f 0,0 ", "pair f 0,x 0", "pair f 1/2,0 0", "pair f +1,0 0", "pair f 0,0 0\n",
    "pair f 0;0 0", "pair f 0,0\n 0", f"pair f 0,1{SIXTY} 0", f"pair f 0,0 1{SIXTY}", "pair f 0,- 0", "pair ends 0 -",
    "pair ends - 0", "pair ends - ", "pair ends -- -", "pair ends -,- -", "hold f one 0", "hold f one -",
    "hold f one 0,0,0", "hold f one ", "hold f one a", "hold f other 0,0", "hold f other -", "hold f other ",
    "hold f other 00", f"hold f other 1{SIXTY}", "hold ends one 0", "hold ends other ", "hold ends one -\n",
    "play f a ", "play f a 0,", "play f a ,0", "play f a ,", "play f a 0,,0", "play f a -0", "play f a 00",
    "play f a 01", "play f a -01", "play f a --1", "play f a -,0", "play f a 0,-", "play f a --", "play f a 1/2",
    "play f a +1", "play f a 1\n", "play f a a", "play f a 0;1", f"play f a 1{SIXTY}", f"play f a -1{SIXTY}",
    f"play f a 0,1{SIXTY}", "play ends x x", "play f c 00", "mean f a 13 0,0 0", "mean f a 100 0,0 0",
    f"mean f a {SIXTY} 0,0 0", f"mean f a 1{SIXTY} 0,0 0", "mean f a -1 0,0 0", "mean f a 00 0,0 0",
    "mean f a 01 0,0 0", "mean f a 012 0,0 0", "mean f a  0,0 0", "mean f a x 0,0 0", "mean f a 1/2 0,0 0",
    "mean f a - 0,0 0", "mean f a 1\n 0,0 0", "mean f a 1, 0,0 0", "mean f a 1 0 0", "mean f a 1 0,0 -",
    "mean f a 1 - 0", "mean f a 1 0,0 0,0", "mean f a 1 00,0 0", "mean f a 1 0,0 00", "mean f a 1 0,0 ",
    "mean f a 1  0", "mean ends x 1 0 -", "mean ends x 1 - 0", "mean f c 13 0,0 0")
NO_FLOORS = (
    "floor g share 0", "floor g share 1; a end 1", "floor f share -1/2; a end 1", "floor g share 1/1001; a end 1",
    "floor g share 0; " + "; ".join([f"{sign} end 1" for sign in "abcdefghijklm"]))
NO_PLACES = (
    (0, f"floor g share 0; a end {SIXTY}"), (1, "floor g share 0; a end 1; b chance a 0 1/2"),
    (1, "floor f share 0; a end 1; b one " + ", ".join(["a 0"] * 7)),
    (0, f"floor g share 0; a end 1/1000001; b end {SIXTY}"))
NO_PLANS = (
    (0, "pair f 2,0 0"), (5, "pair f 0,2 0"), (1, "pair f 0,0 3"), (1, "pair f 0,2 3"), (0, "pair f 2,2 3"),
    (0, "pair f 9,0 9"), (5, f"pair f 1,{SIXTY} 2"), (1, f"pair f 0,0 {SIXTY}"), (0, "hold f one 2,0"),
    (5, "hold f one 1,2"), (0, "hold f one 7,7"), (1, "hold f other 3"), (1, f"hold f other {SIXTY}"),
    (0, "mean f a 0 2,0 0"), (5, "mean f a 12 0,2 0"), (1, "mean f a 1 0,0 3"), (1, "mean f c 0 0,2 3"),
    (0, "mean f d 1 2,2 3"))
NO_GOALS = (
    (0, "reach f a"), (1, "reach f aa"), (2, "reach f b"), (5, "reach f one"), (3, "reach f c,c"), (3, "reach f d,c"),
    (5, "reach f c,d,one"), (1, "reach f c,aa,c"), (4, "reach f c,d,d"), (0, "reach ends z,x"),
    (1, "reach ends x,y,y,x"))


class Refused(unittest.TestCase):
    def setUp(self):
        self.desk = a_desk()
        self.kept = what_stands(self.desk)

    def assert_refused(self, row, kind, place=None):
        with self.subTest(row=row):
            with self.assertRaises(DuelError) as taken:
                self.desk.say(row)
            self.assertIs(type(taken.exception), kind)
            self.assertEqual(getattr(taken.exception, "place", None), place)
            self.assertEqual(what_stands(self.desk), self.kept)

    def test_what_stands(self):
        self.assertEqual(self.kept, {"f": FIRST, "ends": ENDS})

    def test_no_row(self):
        for row in NO_ROWS:
            self.assert_refused(row, NoRow)

    def test_no_name(self):
        for row in NO_NAMES:
            self.assert_refused(row, NoName)

    def test_no_text(self):
        for row in NO_TEXTS:
            self.assert_refused(row, NoText)

    def test_no_floor_and_no_place(self):
        for row in NO_FLOORS:
            self.assert_refused(row, NoFloor)
        for place, row in NO_PLACES:
            self.assert_refused(row, NoPlace, place)

    def test_no_plan(self):
        for place, row in NO_PLANS:
            self.assert_refused(row, NoPlan, place)

    def test_no_goal(self):
        for place, row in NO_GOALS:
            self.assert_refused(row, NoGoal, place)

    def test_of_two_faults_no_row_is_told(self):
        for row in ("plan g two", "plan  two", "plan F ", "hold g two 0,0", "hold f two x", "hold ends two 0",
                    "hold G  ", "show G G", "drop g g", "turn G", "turn G G G", "join ", "floor G", "floor ",
                    "worth g", "worth g e e", "pair g x", "pair f 00 x x", "reach g", "reach g e,a ,", "alike  ",
                    "play f e", "play g a 00 00", "mean g e 13 x", "mean f a 13 0,0 0 0", "reach f a c", "pair f 9,9"):
            self.assert_refused(row, NoRow)

    def test_of_two_faults_the_left_one_is_told(self):
        for row in ("floor G ok", "floor  share 1; a end 1", "floor G share 0", "turn G g", "worth g e", "pair g x x",
                    "hold g one x", "reach g a", "reach g ,", "play g e 00", "play f e 00", "play f  ", "mean g e 13 x x",
                    "mean f e 13 x x", "mean f  13 0 0", "pair g 9,9 9", "mean g a 1 9,9 9", "mean f e 1 9,9 9"):
            self.assert_refused(row, NoName)

    def test_plans_and_goals_come_behind_all_words(self):
        for row in ("pair f 9,9 x", "pair f 9,9 0,0", "pair f 9,9 -", "pair f x 9", "pair f 0 9", "mean f a 13 9,9 9",
                    "mean f a x 9,9 9", "mean f a 1 9,9 x", "mean f a 1 9,9 -", "mean f a 1 0 9", "hold f one 9"):
            self.assert_refused(row, NoText)
        for row in ("reach f a,e", "reach f c,c,e", "reach f d,c,", "reach f a,,", "reach f aa,-"):
            self.assert_refused(row, NoName)

    def test_faults_of_a_text_in_their_order(self):
        self.assert_refused("floor g share 7; a one zz 1; a end x", NoText)
        self.assert_refused("floor g share 7; a one zz 1", NoName)
        self.assert_refused("floor g share 7; a chance a 0 1/2", NoFloor)
        self.assert_refused("floor g share 0; b end 0; a chance a 0 1/2", NoPlace, 1)

    def test_just_inside_the_bounds(self):
        for row in ("mean f a 12 0,0 0", "mean f a 0 0,0 0", "pair f 1,1 2", "hold f other 2", f"play f a {SIXTY}",
                    f"play f a -{SIXTY},0,-1", "reach f c,d", "reach ends x,y,z", "pair ends - -", "hold ends one -",
                    "mean ends x 12 - -", "play ends x 5", "floor abcdefgh share 0; abcdefgh end 1"):
            with self.subTest(row=row):
                self.assertIs(type(self.desk.say(row)), str)

    def test_any_rows_by_lot(self):
        source = Random(112)
        rows = [f"floor g {FIRST}", "drop g", "turn g f", "join g ends", "show f", "worth f a", "plan f one",
                "pair f 0,0 0", "hold f other 2", "reach f c,d", "alike ends", "play f a 0,-1", "mean f a 3 1,1 0"]
        refused = 0
        for _ in range(3000):
            row = source.choice(rows)
            at = source.randrange(len(row) + 1)
            more = source.choice(["", " ", ",", "-", "0", "a", "\n", "x", "9", "f"])
            row = row[:at] + more + row[at + source.randrange(2):]
            kept = what_stands(self.desk)
            try:
                self.assertIs(type(self.desk.say(row)), str)
            except DuelError as taken:
                refused += 1
                self.assertEqual(type(taken).__bases__, (DuelError,))
                self.assertEqual(what_stands(self.desk), kept)
        self.assertGreater(refused, 1000)


class HandsOfTheDesk(unittest.TestCase):
    def test_doors_of_either_hand_where_the_opposite_has_none(self):
        for hand in HANDS:
            desk = Desk()
            desk.say(f"floor f share 1/2; a {hand} a 1, b 2; b end 0")
            doors = {"one": "1 -", "other": "- 1"}[hand]
            self.assertEqual(desk.say(f"pair f {doors}"), "2 0")
            self.assertEqual(desk.say(f"mean f a 2 {doors}"), "2")
            self.assertEqual(desk.say(f"plan f {opposite(hand)}"), "-")
            self.assertEqual(desk.say(f"hold f {hand} 1"), "2 0")
            self.assertEqual(desk.say(f"hold f {opposite(hand)} -"), "2 0")
            for row in (f"pair f {doors[::-1]}", f"mean f a 2 {doors[::-1]}", f"hold f {opposite(hand)} 1",
                        f"hold f {hand} -"):
                with self.assertRaises(NoText):
                    desk.say(row)


if __name__ == "__main__":
    unittest.main()
