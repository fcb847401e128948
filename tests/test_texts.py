import unittest

from chanceduel.errors import NoText
from chanceduel.texts import read_fraction, show_fraction

SIXTY = "9" * 60
SIXTY_ONE = "9" * 61

BOTH_WAYS = (
    ((0, 1), "0"), ((1, 1), "1"), ((-1, 1), "-1"), ((10, 1), "10"), ((-305, 1), "-305"),
    ((1, 2), "1/2"), ((-1, 2), "-1/2"), ((7, 3), "7/3"), ((-100, 9), "-100/9"), ((9, 100), "9/100"),
    ((10 ** 60 - 1, 1), SIXTY), ((1 - 10 ** 60, 1), "-" + SIXTY),
    ((1, 10 ** 60 - 1), "1/" + SIXTY), ((-1, 10 ** 60 - 1), "-1/" + SIXTY),
    ((10 ** 60 - 1, 10 ** 60 - 2), SIXTY + "/" + SIXTY[1:] + "8"),
    ((1 - 10 ** 60, 10 ** 59), "-" + SIXTY + "/1" + "0" * 59))

WRONG = {
    "no figures": ["", "-", "/", "-/", "1/", "/2", "-/2", "-1/"],
    "too many figures": [
        SIXTY_ONE, "-" + SIXTY_ONE, "1/" + SIXTY_ONE, SIXTY_ONE + "/2", "1" + "0" * 60, "1/1" + "0" * 60,
        "0" * 61, "9" * 5000, "1/" + "9" * 5000],
    "0 ahead": ["00", "01", "-01", "007", "01/2", "-01/2", "00/3", "0" * 59 + "1"],
    "-0": ["-0", "-00", "-0/1", "-0/2"],
    "bottom of 0 or 1": ["1/0", "0/0", "1/1", "0/1", "-5/1", "-5/0"],
    "bottom with 0 ahead": ["1/02", "1/00", "1/01", "-1/03"],
    "common divisor": ["2/4", "-2/4", "6/3", "0/2", "0/7", "3/3", "10/15", SIXTY + "/3", "-" + SIXTY + "/" + SIXTY],
    "blanks": [" ", " 1", "1 ", "1 2", "- 1", "1 /2", "1/ 2", " 1/2", "1/2 ", "\t1", "1\t"],
    "other signs": ["+1", "+1/2", "1/+2", "1.5", "1,5", "1_000", "1e3", "0x1", "1:2", "1\\2", "(1)", "~1", "1*2"],
    "a line's end": ["1\n", "\n1", "1/2\n", "1\n/2", "1/\n2", "-\n1", "\n", "1\r", "1\r\n"],
    "a second / or -": ["1/2/3", "1//2", "--1", "1/-2", "-1/-2", "1-", "1-2", "1/2-", "1/2/", "/1/2", "--1/2", "-1-"],
    "no figures at all": ["a", "one", "a/b", "1a", "a1", "1/b", "1/2b", "None", "l", "O"],
    "figures of other scripts": ["\u0663", "\u00b2", "1/\u0663", "\uff11", "\u00bd", "\u22121", "1\u20442", "\u00a01"]}


class Shown(unittest.TestCase):
    def test_texts(self):
        for one, text in BOTH_WAYS:
            with self.subTest(text=text):
                self.assertEqual(show_fraction(one), text)

    def test_more_than_sixty_figures(self):
        self.assertEqual(show_fraction((10 ** 999, 1)), "1" + "0" * 999)
        self.assertEqual(show_fraction((-10 ** 70, 3)), "-1" + "0" * 70 + "/3")
        self.assertEqual(show_fraction((3, 10 ** 70)), "3/1" + "0" * 70)


class Read(unittest.TestCase):
    def test_texts(self):
        for one, text in BOTH_WAYS:
            with self.subTest(text=text):
                told = read_fraction(text)
                self.assertEqual(told, one)
                self.assertIs(type(told), tuple)
                self.assertEqual([type(part) for part in told], [int, int])

    def test_every_length(self):
        for figures in range(1, 61):
            with self.subTest(figures=figures):
                number = 10 ** figures - 1
                self.assertEqual(read_fraction("9" * figures), (number, 1))
                self.assertEqual(read_fraction("-" + "9" * figures), (-number, 1))
                self.assertEqual(read_fraction("-1/" + "9" * figures), (-1, number))
                self.assertEqual(read_fraction("1" * figures + "/2"), (number // 9, 2))

    def test_wrong_texts(self):
        for fault, texts in WRONG.items():
            for text in texts:
                with self.subTest(fault=fault, text=text):
                    with self.assertRaises(NoText):
                        read_fraction(text)

    def test_wrong_sign_anywhere(self):
        wrong = [chr(code) for code in range(128) if chr(code) not in "0123456789-/"]
        for sign in wrong:
            for text in (sign, sign + "1/2", "1" + sign + "/2", "1/" + sign + "2", "1/2" + sign):
                with self.subTest(text=text):
                    with self.assertRaises(NoText):
                        read_fraction(text)

    def test_just_the_written_texts_are_read(self):
        # Whatever is read is written back to the same text.
        texts = [""]
        for _ in range(5):
            texts = texts + [text + sign for text in texts for sign in "012-/"]
        read = 0
        for text in sorted(set(texts)):
            try:
                told = read_fraction(text)
            except NoText:
                continue
            read = read + 1
            self.assertEqual(show_fraction(told), text)
        self.assertEqual(read, self.readable_by_count())

    def readable_by_count(self):
        # The fractions whose text has at most five signs, all among 012-/.
        whole = [number for number in range(-9999, 100000) if not set(str(number)) - set("012-")]
        whole = [number for number in whole if len(str(number)) <= 5]
        parted = 0
        for top in whole:
            for bottom in whole:
                text = str(top) + "/" + str(bottom)
                if bottom >= 2 and len(text) <= 5 and not self.common(top, bottom):
                    parted = parted + 1
        return len(whole) + parted

    def common(self, top, bottom):
        return any(top % number == 0 and bottom % number == 0 for number in range(2, bottom + 1))


class ThereAndBack(unittest.TestCase):
    def test_small_ones(self):
        for top in range(-30, 31):
            for bottom in range(1, 31):
                if all(top % number or bottom % number for number in range(2, bottom + 1)):
                    with self.subTest(top=top, bottom=bottom):
                        self.assertEqual(read_fraction(show_fraction((top, bottom))), (top, bottom))


if __name__ == "__main__":
    unittest.main()
