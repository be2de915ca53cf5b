"""Signs, names and rows: their kinds, the shape of a row, and names exchanged [2, 5, 6]."""

from freshrooms.errors import NoExchange

LETTERS = "abcdefghijklmnopqrstuvwxyz"
MOST_LETTERS = 8


def is_whole(thing):
    # A truth is an int to Python, but no whole number here.
    return isinstance(thing, int) and not isinstance(thing, bool)


def is_sign(thing):
    if not isinstance(thing, str) or not 1 <= len(thing) <= MOST_LETTERS:
        return False
    return all([letter in LETTERS for letter in thing])


def is_name(thing):
    # Compared as a number: Python refuses to write out very long ones.
    return is_whole(thing) and abs(thing) < 10 ** 60


def shape_of(row):
    numbers = {}
    shape = []
    for sign, name in row:
        if name not in numbers:
            numbers[name] = len(numbers)
        shape.append((sign, numbers[name]))
    return shape


def exchanged(row, pairs):
    news = dict(pairs)
    olds = {}
    told = []
    for sign, name in row:
        new = news.get(name, name)
        if olds.setdefault(new, name) != name:
            raise NoExchange("two unlike names of the row would become one")
        told.append((sign, new))
    return told


def exchange_of(one, other):
    if shape_of(one) != shape_of(other):
        return None
    names = [name for sign, name in one]
    news = [name for sign, name in other]
    return sorted(dict(zip(names, news)).items())
