"""Plain machines made of tables of rows, and the shapes of the rows that they let by [24, 25]."""

from freshrooms.errors import NoFit, TooGreat
from freshrooms.plains import read_by
from freshrooms.rows import shape_of

MOST_NAMES = 3
MOST_SIGNS = 4


def plain_by(signs, table):
    shapes = [tuple(shape_of(row)) for row in table]
    if not all([sign in signs for sign in signs_in(shapes)]):
        raise NoFit("each sign of a table is one of the signs")
    if not all([names_in(shape) <= MOST_NAMES for shape in shapes]):
        raise TooGreat("a row of a table has at most three unlike names")
    beginnings = beginnings_of(shapes)
    numbers = dict([(shape, number) for number, shape in enumerate(beginnings)])
    return (list(signs), [(names_in(shape), shape in shapes, steps_at(shape, signs, numbers)) for shape in beginnings])


def signs_in(shapes):
    signs = []
    for shape in shapes:
        signs.extend([sign for sign, name in shape])
    return signs


def names_in(shape):
    return len(set([name for sign, name in shape]))


def beginnings_of(shapes):
    # Each with its length ahead: by this they are ordered first.
    told = [(0, ())]
    for shape in shapes:
        told.extend([(end, shape[:end]) for end in range(len(shape) + 1)])
    return [shape for size, shape in sorted(set(told))]


def steps_at(shape, signs, numbers):
    names = list(range(names_in(shape) + 1))
    steps = []
    for sign in signs:
        steps.append([case_to(shape + ((sign, name),), numbers) for name in names])
    return steps


def case_to(shape, numbers):
    if shape not in numbers:
        return None
    # A name of a shape is the number of the keeper that holds it, here and in each beginning.
    return (numbers[shape], tuple(range(names_in(shape))))


def shapes_of(plain, many):
    if not 0 <= many <= MOST_SIGNS:
        raise TooGreat("the shapes told have none to four signs")
    walks = [([], (0, ()))]
    for size in range(many):
        walks = walks_on(plain, walks)
    return [shape for shape, standing in walks if plain[1][standing[0]][1]]


# Each walk is a tuple (shape, the standing behind it); those that stand nowhere are left out.
def walks_on(plain, walks):
    onward = []
    for shape, standing in walks:
        names = list(range(names_in(shape) + 1))
        for sign in plain[0]:
            later = [(shape + [(sign, name)], read_by(plain, standing, sign, name)) for name in names]
            onward.extend([walk for walk in later if walk[1] is not None])
    return onward
