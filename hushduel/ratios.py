"""Fractions: tuples (top, bottom) of two whole numbers in lowest terms, the bottom from 1 on."""

from hushduel.errors import NoNumber, NoText

NOUGHT = (0, 1)
ONE = (1, 1)
FIGURES = "0123456789"
MOST_FIGURES = 30


# True and False are ints to Python, but no whole numbers here.
def is_whole(thing):
    return isinstance(thing, int) and not isinstance(thing, bool)


def common_divisor(first, second):
    great = abs(first)
    small = abs(second)
    while small != 0:
        rest = great % small
        great = small
        small = rest
    return great


# Reckoning within the program ends here: its numbers are known to be whole and the bottom not to be nought.
def lowest(top, bottom):
    divisor = common_divisor(top, bottom)
    if bottom < 0:
        divisor = -divisor
    return (top // divisor, bottom // divisor)


def is_ratio(thing):
    if not isinstance(thing, tuple) or len(thing) != 2:
        return False
    if not is_whole(thing[0]) or not is_whole(thing[1]):
        return False
    return thing[1] >= 1 and common_divisor(thing[0], thing[1]) == 1


def ratio(top, bottom):
    if not is_whole(top) or not is_whole(bottom):
        raise NoNumber("a fraction is made of two whole numbers")
    if bottom == 0:
        raise NoNumber("the bottom of a fraction is not nought")
    return lowest(top, bottom)


def plus(first, second):
    return lowest(first[0] * second[1] + second[0] * first[1], first[1] * second[1])


def minus(first, second):
    return lowest(first[0] * second[1] - second[0] * first[1], first[1] * second[1])


def times(first, second):
    return lowest(first[0] * second[0], first[1] * second[1])


def over(first, second):
    if second[0] == 0:
        raise NoNumber("nothing goes over nought")
    return lowest(first[0] * second[1], first[1] * second[0])


def under(first, second):
    return first[0] * second[1] < second[0] * first[1]


def total(some):
    result = NOUGHT
    for each in some:
        result = plus(result, each)
    return result


def show_ratio(first):
    top = str(first[0])
    if first[1] == 1:
        return top
    bottom = str(first[1])
    return f"{top}/{bottom}"


# The length is asked ahead of int, which would refuse or toil at endless figures.
def are_figures(text):
    return 1 <= len(text) <= MOST_FIGURES and all([sign in FIGURES for sign in text])


def read_ratio(text):
    if not isinstance(text, str):
        raise NoText("a fraction is read from a text")
    halves = text.partition("/")
    top = halves[0]
    bottom = halves[2] if halves[1] == "/" else "1"
    bare = top[1:] if top.startswith("-") else top
    if not are_figures(bare) or not are_figures(bottom) or int(bottom) == 0:
        raise NoText(f"{text!r} is no fraction")
    result = lowest(int(top), int(bottom))
    # A fraction has one text alone: noughts ahead, -0, a bottom of 1 or a common divisor show themselves here.
    if show_ratio(result) != text:
        raise NoText(f"{text!r} is not how its fraction is shown")
    return result
