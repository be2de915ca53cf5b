"""Going through a machine: standings, ways along a row, and rows let by [10, 11, 12]."""

from freshrooms.asks import filled, fits
from freshrooms.errors import NoWay


def first_standing(machine):
    return (0, (None,) * machine[1][0][0])


def fitting(machine, standing, sign, name):
    kept = standing[1]
    steps = steps_at(machine, standing)
    return [number for number, step in enumerate(steps) if step[0] == sign and fits(step, kept, name)]


def behind(machine, standing, number, name):
    step = steps_at(machine, standing)[number]
    return (step[2], filled(step, standing[1], name))


def walked(machine, row, way):
    if len(way) != len(row):
        raise NoWay("a way has one number for each sign of the row")
    standing = first_standing(machine)
    for read, number in zip(row, way):
        if number not in fitting(machine, standing, read[0], read[1]):
            raise NoWay("each number of a way is that of a step that fits")
        standing = behind(machine, standing, number, read[1])
    return standing


def lets_by(machine, row):
    return way_by(machine, row) is not None


def way_by(machine, row):
    ways = {first_standing(machine): []}
    for sign, name in row:
        ways = ways_on(machine, ways, sign, name)
    for standing, way in ways.items():
        if is_good_at(machine, standing):
            return way
    return None


def ways_on(machine, ways, sign, name):
    # Ways that come to the same standing go on alike, so one is kept for each standing, however many there are.
    onward = {}
    for standing, way in ways.items():
        for number in fitting(machine, standing, sign, name):
            later = behind(machine, standing, number, name)
            if later not in onward:
                onward[later] = way + [number]
    return onward


def steps_at(machine, standing):
    return machine[1][standing[0]][2]


def is_good_at(machine, standing):
    return machine[1][standing[0]][1]
