import copy
import re
import unittest

from chanceduel.errors import DuelError, NoFloor, NoName, NoPlace, NoText
from chanceduel.floors import Floor
from chanceduel.floortexts import read_floor, show_floor
from helper import EXAMPLE_NAMES, EXAMPLE_TEXT, NOUGHT, ONE, all_floors, any_floors, example, named_edges

WORDS = ["share", "one", "other", "chance", "end"]
NESTED = ["a", "ab", "abc", "abcd", "abcde", "abcdef", "abcdefg", "abcdefgh", "b", "bc", "bcd", "z"]
FRACTION = r"(?:-?[1-9][0-9]*(?:/[1-9][0-9]*)?|0)"
NAME = "[a-z]{1,8}"


def sets_of_names(size):
    plain = ["abcdefghijkl"[place] for place in range(size)]
    long = [letter * 8 for letter in "zyxwvutsrqpo"[:size]]
    return [plain, long, (WORDS + NESTED)[:size], NESTED[:size], NESTED[12 - size:], list(reversed(WORDS + plain))[:size]]


BOTH_WAYS = (
    (EXAMPLE_TEXT, EXAMPLE_NAMES, example()),
    ("share 0; a end 0", ["a"], (NOUGHT, [("end", NOUGHT)])),
    ("share 999/1000; abcdefgh end -7/3", ["abcdefgh"], ((999, 1000), [("end", (-7, 3))])),
    ("share 0; share one share 1", ["share"], (NOUGHT, [("one", [(0, ONE)])])),
    ("share 0; one one one 1, one -1", ["one"], (NOUGHT, [("one", [(0, ONE), (0, (-1, 1))])])),
    ("share 0; other other other 1/2", ["other"], (NOUGHT, [("other", [(0, (1, 2))])])),
    ("share 0; chance chance chance 1 1", ["chance"], (NOUGHT, [("chance", [(0, ONE, ONE)])])),
    ("share 0; end end 4", ["end"], (NOUGHT, [("end", (4, 1))])),
    ("share 2/3; end one chance 0, end 1, share -1/2; chance other one 5; one chance other 3 1/3, share 0 2/3; "
     "other end 6; share end -1",
     ["end", "chance", "one", "other", "share"],
     ((2, 3), [("one", [(1, NOUGHT), (0, ONE), (4, (-1, 2))]), ("other", [(2, (5, 1))]),
               ("chance", [(3, (3, 1), (1, 3)), (4, NOUGHT, (2, 3))]), ("end", (6, 1)), ("end", (-1, 1))])),
    ("share 1/2; a one ab 1; ab other abc 2; abc end 3; z one a 0, z 0",
     ["a", "ab", "abc", "z"],
     ((1, 2), [("one", [(1, ONE)]), ("other", [(2, (2, 1))]), ("end", (3, 1)), ("one", [(0, NOUGHT), (3, NOUGHT)])])),
    ("share 1/2; a end " + "1" + "0" * 30 + "; b end -" + "9" * 30 + "/1000000", ["a", "b"],
     ((1, 2), [("end", (10 ** 30, 1)), ("end", (-10 ** 30 + 1, 10 ** 6))])))

# Each of these is the document's example with one fault of form, or near it.
MISFORMED = {
    "nothing, or no share": [
        "", " ", "\n", ";", "; ", "a end 5", "share", "share ", "share; a end 5", "share ; a end 5", "1/2; a end 5",
        "; a end 5", "a end 5; share 1/2", "shares 1/2; a end 5", "Share 1/2; a end 5", "SHARE 1/2; a end 5",
        "shar 1/2; a end 5", "share1/2; a end 5", "end 1/2; a end 5", " 1/2; a end 5"],
    "signs left out": [
        "share 1/2 a end 5", "share 1/2, a end 5", "share 1/2; a one b 3 c 0; b end 1; c end 1",
        "share 1/2; a end 5 b end 5", "share 1/2; a end 5, b end 5", "share 1/2: a end 5", "share 1/2. a end 5",
        "share 1/2; a one a 3; a 0"],
    "signs put in": [
        "share 1/2;; a end 5", "share 1/2; ; a end 5", "share 1/2; a end 5;", "share 1/2; a end 5; ", "; share 1/2",
        ";share 1/2", "share 1/2;", "share 1/2; ", "share 1/2; a one a 3,", "share 1/2; a one a 3, ", "share 1/2.",
        "share 1/2; a one a 3,, a 0", "share 1/2; a one a 3, , a 0", "share 1/2; a one , a 3", "share 1/2; a one, a 3",
        "share 1/2, ; a end 5", "share 1/2; a end 5.", "share 1/2; a end 5, ", "share 1/2; a: end 5",
        "share 1/2; (a end 5)", "share 1/2; a one a 3; ; b end 5", "share 1/2; a one a=3", "share = 1/2; a end 5"],
    "blanks left out": [
        "share 1/2;a end 5", "share 1/2; a one a 3,a 0", "share 1/2; aend 5", "share 1/2; a end5", "share 1/2; a onea 3",
        "share 1/2; a one a3", "share 1/2; a chance a 1 1/2,a 1 1/2", "share 1/2; a chance a 11", "share 1/2; aonea3"],
    "blanks put in": [
        "share  1/2; a end 5", "share 1/2;  a end 5", "share 1/2 ; a end 5", "share 1/2; a  end 5", "share 1/2; a end  5",
        "share 1/2; a end 5 ; b end 5", "share 1/2; a one  a 3", "share 1/2; a one a  3", "share 1/2; a one a 3,  a 0",
        "share 1/2; a one a 3 , a 0", "share 1/2; a chance a 1  1", "share 1 /2; a end 5", "share 1/ 2; a end 5",
        "share 1/2; a end - 5", "share 1/2; a e nd 5"],
    "blanks at the ends": [
        " share 1/2; a end 5", "share 1/2; a end 5 ", "share 1/2 ", " share 1/2", "share 1/2; a one a 3 ",
        "share 1/2; a chance a 3 1 "],
    "a line's end": [
        "share 1/2\n", "\nshare 1/2", "share 1/2; a end 5\n", "\nshare 1/2; a end 5", "share\n1/2; a end 5",
        "share 1/2;\na end 5", "share 1/2\n; a end 5", "share 1/2; a\nend 5", "share 1/2; a end\n5", "share 1/2; a\n end 5",
        "share 1/2; a one a 3,\na 0", "share 1/2; a one a 3\n, a 0", "share 1/2; a one a\n3", "share 1/2; a one a\n 3",
        "share 1/2; a one a 3\n", "share 1/2; a chance a 3 1\n", "share 1/2; \na end 5", "share 1/2; a one\n a 3",
        "share 1/2;\n a end 5"],
    "words too few": [
        "share 1/2; a", "share 1/2; a ", "share 1/2; a end", "share 1/2; a end ", "share 1/2; a one", "share 1/2; a one ",
        "share 1/2; a one a", "share 1/2; a one 3", "share 1/2; a chance a 1", "share 1/2; a chance a", "share 1/2; end 5",
        "share 1/2; a 5", "share 1/2; a chance a 1 1/2, a 1", "share 1/2; a one a 3, a", "share 1/2; a one a, a 3",
        "share 1/2; a other a", "share 1/2; one a 3", "share 1/2; one one 3"],
    "words too many": [
        "share 1/2 1/2; a end 5", "share 1/2 a; a end 5", "share 1/2; a end 5 5", "share 1/2; a end a 5",
        "share 1/2; a one a 3 1", "share 1/2; a one a 3 1, a 3", "share 1/2; a other a 3 1", "share 1/2; a chance a 3 1 1",
        "share 1/2; a one one a 3", "share 1/2; a one a a 3", "share 1/2; a end end 5", "share 1/2; a b end 5",
        "share 1/2; a chance a 1 1/2, a 1 1/2 1", "share share 1/2; a end 5", "share 1/2; a one a 3, a 3 1"],
    "another kind": [
        "share 1/2; a two a 3", "share 1/2; a One a 3", "share 1/2; a ends 5", "share 1/2; a END 5", "share 1/2; a en 5",
        "share 1/2; a ones a 3", "share 1/2; a on a 3", "share 1/2; a Chance a 3 1", "share 1/2; a share 5",
        "share 1/2; a a 5", "share 1/2; a chances a 3 1", "share 1/2; a  a 3"],
    "great letters, figures and other signs in names": [
        "share 1/2; A end 5", "share 1/2; aB end 5", "share 1/2; Ab end 5", "share 1/2; a1 end 5", "share 1/2; 1 end 5",
        "share 1/2; 1a end 5", "share 1/2; a- end 5", "share 1/2; a_b end 5", "share 1/2; _ end 5", "share 1/2; a/b end 5",
        "share 1/2; a' end 5", "share 1/2; a~ end 5", "share 1/2; `a end 5", "share 1/2; a{ end 5", "share 1/2; a, end 5"],
    "names of none and of nine letters": [
        "share 1/2;  end 5", "share 1/2;  one a 3", "share 1/2; abcdefghi end 5", "share 1/2; " + "a" * 100 + " end 5",
        "share 1/2; abcdefghi one abcdefghi 3"],
    "a door's TO that is no name": [
        "share 1/2; a one A 3", "share 1/2; a one a1 3", "share 1/2; a one 1 3", "share 1/2; a one  3",
        "share 1/2; a one 0 3", "share 1/2; a one abcdefghi 3", "share 1/2; a other aB 3", "share 1/2; a chance A 3 1",
        "share 1/2; a chance abcdefghi 3 1", "share 1/2; a chance  3 1", "share 1/2; a one a 3, A 3",
        "share 1/2; a one a 3,  3", "share 1/2; a one - 3", "share 1/2; a chance 1 1 1"],
    "numbers not in lowest terms": [
        "share 2/4; a end 5", "share 0/1; a end 5", "share 1/2; a end 4/2", "share 1/2; a one a 6/4",
        "share 1/2; a other a 0/3", "share 1/2; a chance a 2/6 1", "share 1/2; a chance a 1 2/4, a 1 1/2",
        "share 1/2; a chance a 1 1/1", "share 1/2; a chance a 1 2/2", "share 5/1; a end 5"],
    "numbers that are none": [
        "share a; a end 5", "share 1/0; a end 5", "share .5; a end 5", "share 0.5; a end 5", "share +0; a end 5",
        "share -0; a end 5", "share 00; a end 5", "share 1/2; a end", "share 1/2; a end x", "share 1/2; a end 05",
        "share 1/2; a end -0", "share 1/2; a end +5", "share 1/2; a end 5.0", "share 1/2; a end 1/-2",
        "share 1/2; a one a x", "share 1/2; a one a 1/02", "share 1/2; a one a -", "share 1/2; a chance a 1 x",
        "share 1/2; a chance a 1 01", "share 1/2; a chance a x 1", "share 1/2; a end " + "9" * 61,
        "share 1/2; a end 1/" + "9" * 61, "share " + "9" * 61 + "; a end 5"]}

MISNAMED = {
    "two places of one name": [
        "share 1/2; a end 5; a end 5", "share 1/2; a end 5; b end 5; a one a 1", "share 0; one end 1; one end 2",
        "share 1/2; b end 1; a one b 3; c end 2; a chance a 1 1", "share 1/2; abcdefgh end 5; abcdefgh end 6"],
    "a TO that is no place's name": [
        "share 1/2; a one b 3", "share 1/2; a other b 3", "share 1/2; a chance b 3 1", "share 1/2; a one a 3, b 3",
        "share 1/2; a chance a 3 1/2, b 3 1/2", "share 1/2; ab one a 3", "share 1/2; a one ab 3", "share 1/2; a one one 3",
        "share 1/2; a one share 3", "share 1/2; a one end 3; b end 5", "share 1/2; a end 5; b one a 1; c one d 1",
        "share 1/2; abcdefgh one abcdefg 1"]}

# Each with the place of the first faulty row, or None where the floor is refused.
MISFITS = (
    ("share 1; a end 5", None), ("share 3/2; a end 5", None), ("share -1/2; a end 5", None),
    ("share 1/1001; a end 5", None), ("share 1/2", None), ("share 0", None), ("share 2", None), ("share -7/3", None),
    ("share 1/2; " + "; ".join(letter + " end 5" for letter in "abcdefghijklm"), None),
    ("share 1/2; a one " + ", ".join(["a 1"] * 7), 0), ("share 1/2; b end 5; a other " + ", ".join(["a 1"] * 7), 1),
    ("share 1/2; b end 5; a chance " + ", ".join(["a 1 1/7"] * 7), 1),
    ("share 1/2; a one " + ", ".join(["a 1"] * 100), 0),
    ("share 1/2; a end 1" + "0" * 29 + "1", 0), ("share 1/2; a end -1" + "0" * 29 + "1", 0),
    ("share 1/2; a end 1; b end 1/1000001", 1), ("share 1/2; a end 1; b one a 1/1000001", 1),
    ("share 1/2; a one a 1" + "0" * 31, 0), ("share 1/2; a chance a 1 1/2", 0), ("share 1/2; a chance a 1 1/2, a 1 2/3", 0),
    ("share 1/2; a chance a 1 0", 0), ("share 1/2; a chance a 1 1, a 1 0", 0),
    ("share 1/2; a chance a 1 -1/2, a 1 3/2", 0), ("share 1/2; a chance a 1 1/1000001, a 1 1000000/1000001", 0),
    ("share 1/2; a end 5; b chance a 1 1/2; c chance a 1 2", 1), ("share 1/2; a end 5; b end 5; c chance c 1 2", 2),
    ("share 1; a chance a 1 2", None), ("share 1/2; " + "; ".join(letter + " chance a 1 2" for letter in "abcdefghijklm"), None))


class Case(unittest.TestCase):
    def assert_read(self, text, names, share, rows):
        told = read_floor(text)
        self.assertIs(type(told), tuple)
        self.assertEqual(len(told), 2)
        self.assertIsInstance(told[0], Floor)
        self.assertEqual(told[0].share(), share)
        self.assertEqual(told[0].rows(), rows)
        self.assertEqual(told[1], names)
        self.assertIs(type(told[1]), list)

    def assert_refused(self, refusal, text):
        with self.assertRaises(DuelError) as taken:
            read_floor(text)
        self.assertIs(type(taken.exception), refusal)
        return taken.exception


class Written(Case):
    def test_texts(self):
        for text, names, (share, rows) in BOTH_WAYS:
            with self.subTest(text=text):
                self.assertEqual(show_floor(Floor(share, rows), names), text)

    def test_names_stay(self):
        names = list(EXAMPLE_NAMES)
        floor = Floor(*example())
        show_floor(floor, names)
        self.assertEqual(names, EXAMPLE_NAMES)
        self.assertEqual(floor.rows(), example()[1])


class Read(Case):
    def test_texts(self):
        for text, names, (share, rows) in BOTH_WAYS:
            with self.subTest(text=text):
                self.assert_read(text, names, share, rows)

    def test_names_of_every_length(self):
        for length in range(1, 9):
            name = "qwertzui"[:length]
            self.assert_read(f"share 0; {name} one {name} 1", [name], NOUGHT, [("one", [(0, ONE)])])

    def test_every_letter(self):
        for letter in "abcdefghijklmnopqrstuvwxyz":
            self.assert_read(f"share 0; {letter} end 1", [letter], NOUGHT, [("end", ONE)])

    def test_what_is_told_is_the_askers_own(self):
        told = read_floor(EXAMPLE_TEXT)
        told[1].clear()
        told[0].rows()[0][1].clear()
        self.assert_read(EXAMPLE_TEXT, EXAMPLE_NAMES, *example())
        self.assertEqual(told[0].rows(), example()[1])


class ThereAndBack(Case):
    def test_with_all_names(self):
        for share, rows in all_floors():
            kept = copy.deepcopy(rows)
            for names in sets_of_names(len(rows)):
                with self.subTest(share=share, rows=rows, names=names):
                    text = show_floor(Floor(share, rows), names)
                    self.assert_read(text, names, share, kept)
                    self.assertEqual(show_floor(*read_floor(text)), text)

    def test_more_floors(self):
        for share, rows in any_floors(11, 150):
            names = NESTED[:len(rows)]
            self.assert_read(show_floor(Floor(share, rows), names), names, share, rows)

    def test_form(self):
        door = f"{NAME} {FRACTION}"
        chance = f"{door} {FRACTION}"
        place = f"{NAME} (?:(?:one|other) {door}(?:, {door})*|chance {chance}(?:, {chance})*|end {FRACTION})"
        for share, rows in all_floors():
            text = show_floor(Floor(share, rows), NESTED[:len(rows)])
            self.assertIsNotNone(re.fullmatch(f"share {FRACTION}(?:; {place})*", text))


class Refused(Case):
    def test_faults_of_form(self):
        for fault, texts in MISFORMED.items():
            for text in texts:
                with self.subTest(fault=fault, text=text):
                    self.assert_refused(NoText, text)

    def test_faults_of_names(self):
        for fault, texts in MISNAMED.items():
            for text in texts:
                with self.subTest(fault=fault, text=text):
                    self.assert_refused(NoName, text)

    def test_faults_of_floors_and_places(self):
        for text, place in MISFITS:
            with self.subTest(text=text):
                if place is None:
                    self.assert_refused(NoFloor, text)
                else:
                    self.assertEqual(self.assert_refused(NoPlace, text).place, place)

    def test_a_wrong_sign_anywhere(self):
        # One sign more, in any spot, makes another text of the form or none.
        for sign in [chr(code) for code in range(32, 127)] + ["\n"]:
            for at in range(len(EXAMPLE_TEXT) + 1):
                self.assert_of_the_form_or_refused(EXAMPLE_TEXT[:at] + sign + EXAMPLE_TEXT[at:])

    def test_a_sign_changed_or_left_out(self):
        for at in range(len(EXAMPLE_TEXT)):
            for sign in ["", "\n"] + list(" ;,-/0129abcZ"):
                self.assert_of_the_form_or_refused(EXAMPLE_TEXT[:at] + sign + EXAMPLE_TEXT[at + 1:])

    def assert_of_the_form_or_refused(self, text):
        try:
            told = read_floor(text)
        except NoText:
            self.assertFalse(self.is_of_the_form(text), text)
        except (NoName, NoFloor, NoPlace):
            self.assertTrue(self.is_of_the_form(text), text)
        else:
            self.assertEqual(show_floor(*told), text)

    def is_of_the_form(self, text):
        number = "(?:0|-?[1-9][0-9]*(?:/(?:[2-9]|[1-9][0-9]+))?)"
        door = f"{NAME} {number}"
        chance = f"{door} {number}"
        place = f"{NAME} (?:(?:one|other) {door}(?:, {door})*|chance {chance}(?:, {chance})*|end {number})"
        if not re.fullmatch(f"share {number}(?:; {place})*", text):
            return False
        return all(self.in_lowest_terms(one) for one in re.findall("[0-9]+/[0-9]+", text))

    def in_lowest_terms(self, text):
        top, bottom = (int(part) for part in text.split("/"))
        return not any(top % number == 0 and bottom % number == 0 for number in range(2, bottom + 1))


class TheFirstKindOfFaultComes(Case):
    def test_form_ahead_of_names(self):
        for text in (
                "share 1/2; a end 5; a end 5;", "share 1/2; a end 5; a end x", "share 1/2; a one b 3; b end 2/4",
                "share 1/2; a one b 3; c ends 5", "share 1/2; a one b 3, c1 3", "share 1/2; a end 5; a end 5; B end 5",
                "share 2/4; a end 5; a end 5", "share 1/2; a one b 3\n"):
            with self.subTest(text=text):
                self.assert_refused(NoText, text)

    def test_form_ahead_of_floors_and_places(self):
        thirteen = "; ".join(letter + " end 5" for letter in "abcdefghijklm")
        for text in (
                "share 1;", "share 1 ", "share 1; a end", "share -1/2; a end 2/4", f"share 1/2; {thirteen}; n end",
                f"share 1/2; {thirteen} ", "share 1/2; a chance a 1 2; b end", "share 1/2; a chance a 1 2, a 1",
                "share 1/2; a one " + ", ".join(["a 1"] * 7) + ", a"):
            with self.subTest(text=text):
                self.assert_refused(NoText, text)

    def test_names_ahead_of_floors_and_places(self):
        thirteen = "; ".join(letter + " end 5" for letter in "abcdefghijkla")
        for text in (
                "share 1; a end 5; a end 5", "share 1/1001; a one b 3", f"share 1/2; {thirteen}",
                f"share 1; {thirteen}", "share 1/2; a chance a 1 2; a end 5", "share 1/2; a chance a 1 2; b one c 1",
                "share 1/2; a one " + ", ".join(["a 1"] * 6) + ", b 1", "share 1/2; a end 1/1000001; a end 5"):
            with self.subTest(text=text):
                self.assert_refused(NoName, text)


class Samples(unittest.TestCase):
    def test_names_are_unlike(self):
        for share, rows in named_edges():
            for names in sets_of_names(len(rows)):
                self.assertEqual(len(names), len(rows))
                self.assertEqual(len(set(names)), len(names))


if __name__ == "__main__":
    unittest.main()
