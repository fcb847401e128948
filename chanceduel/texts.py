"""Fractions as texts: TOP where the bottom is 1, else TOP/BOTTOM."""

from chanceduel.errors import NoText
from chanceduel.parts import fraction

FIGURES = "0123456789"
MOST_FIGURES = 60


def show_fraction(one):
    top = one[0]
    bottom = one[1]
    if bottom == 1:
        return str(top)
    return f"{top}/{bottom}"


def read_figures(text):
    if len(text) < 1 or len(text) > MOST_FIGURES:
        raise NoText("a number has one to sixty figures")
    # Not isdigit: it takes signs of other scripts for figures, too.
    if any([sign not in FIGURES for sign in text]):
        raise NoText("a number has figures alone")
    if text[0] == "0" and text != "0":
        raise NoText("a number has no 0 ahead of other figures")
    return int(text)


def read_top(text):
    if not text.startswith("-"):
        return read_figures(text)
    size = read_figures(text[1:])
    if size == 0:
        raise NoText("0 has no - ahead")
    return -size


def read_fraction(text):
    pieces = text.split("/")
    if len(pieces) > 2:
        raise NoText("a fraction has one / at most")
    top = read_top(pieces[0])
    if len(pieces) == 1:
        return fraction(top, 1)
    bottom = read_figures(pieces[1])
    if bottom < 2:
        raise NoText("a written bottom is from 2 on")
    told = fraction(top, bottom)
    if told[1] != bottom:
        raise NoText("a written fraction is in lowest terms")
    return told
