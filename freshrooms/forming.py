"""The plain form of a machine that is told singly, and a plain machine told as a machine [15, 16]."""

from freshrooms.errors import NotSingle, TooGreat
from freshrooms.going import behind, first_standing, fitting
from freshrooms.machines import MOST_STEPS
from freshrooms.plains import is_small


def is_single(machine):
    try:
        plain_of(machine)
    except NotSingle:
        return False
    return True


# A pair (room, places) is itself a standing, in which the names are the numbers of the plain keepers: so the machine is
# gone through by pairs as by standings, and the name that no keeper holds is the next number.
def plain_of(machine):
    numbers = {first_standing(machine): 0}
    rooms = []
    while len(rooms) < len(numbers):
        pair = list(numbers)[len(rooms)]
        steps = [plain_cases(machine, pair, sign, numbers) for sign in machine[0]]
        rooms.append((len(names_held(pair[1])), machine[1][pair[0]][1], steps))
    return ((list(machine[0]), rooms), list(numbers))


def plain_cases(machine, pair, sign, numbers):
    names = list(range(len(names_held(pair[1])) + 1))
    return [plain_case(only_behind(machine, pair, sign, name), numbers) for name in names]


# A pair that wasn't found ahead gets the next number, and stands in numbers from here on.
def plain_case(standing, numbers):
    if standing is None:
        return None
    names = names_held(standing[1])
    pair = (standing[0], places_among(names, standing[1]))
    return (numbers.setdefault(pair, len(numbers)), tuple(names))


def only_behind(machine, standing, sign, name):
    steps = fitting(machine, standing, sign, name)
    if len(steps) > 1:
        raise NotSingle("two steps fit a standing and a sign with a name")
    return behind(machine, standing, steps[0], name) if steps else None


def names_held(kept):
    names = []
    for name in kept:
        if name is not None and name not in names:
            names.append(name)
    return names


def places_among(names, kept):
    return tuple([None if name is None else names.index(name) for name in kept])


def machine_of(plain):
    rooms = [(room[0], room[1], steps_of(plain[0], room)) for room in plain[1]]
    if not is_small(plain) or sum([len(room[2]) for room in rooms]) > MOST_STEPS:
        raise TooGreat("a machine has at most twelve rooms, three keepers in each, and a hundred and twenty steps")
    return (list(plain[0]), rooms)


def steps_of(signs, room):
    steps = []
    for sign, cases in zip(signs, room[2]):
        for number, case in enumerate(cases):
            if case is not None:
                asks = "fresh" if number == room[0] else number
                steps.append((sign, asks, case[0], fills_told(case[1], room[0])))
    return steps


def fills_told(fills, own):
    return tuple(["new" if fill == own else fill for fill in fills])
