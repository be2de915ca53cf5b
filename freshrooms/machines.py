"""Machines: what is one, of anything, and a machine copied [8]."""

from freshrooms.errors import NoMachine
from freshrooms.rows import is_sign, is_whole

MOST_SIGNS = 3
MOST_ROOMS = 12
MOST_KEEPERS = 3
MOST_STEPS = 120


def is_machine(thing):
    return is_tuple_of(thing, 2) and are_signs(thing[0]) and are_rooms(thing[1], thing[0])


def copied_machine(thing):
    if not is_machine(thing):
        raise NoMachine("a machine is a tuple (signs, rooms) of the form that the document tells")
    return (list(thing[0]), [copied_room(room) for room in thing[1]])


def copied_room(room):
    # A step is tuples throughout, so no list within it is left to be made anew.
    return (room[0], room[1], list(room[2]))


def is_tuple_of(thing, many):
    return isinstance(thing, tuple) and len(thing) == many


def is_below(thing, end):
    return is_whole(thing) and 0 <= thing < end


# The kind is looked at first here and below: a thing that is no text may answer == as it likes.
def is_one_of(thing, texts):
    return isinstance(thing, str) and thing in texts


def are_signs(thing):
    if not isinstance(thing, list) or not 1 <= len(thing) <= MOST_SIGNS:
        return False
    if not all([is_sign(sign) for sign in thing]):
        return False
    return thing == sorted(set(thing))


def are_rooms(thing, signs):
    if not isinstance(thing, list) or not 1 <= len(thing) <= MOST_ROOMS:
        return False
    # The steps come last, since a step speaks of the keepers of any room.
    if not all([is_room_frame(room) for room in thing]):
        return False
    if sum([len(room[2]) for room in thing]) > MOST_STEPS:
        return False
    keepers = [room[0] for room in thing]
    return all([are_steps(room[2], room[0], signs, keepers) for room in thing])


def is_room_frame(thing):
    if not is_tuple_of(thing, 3):
        return False
    return is_below(thing[0], MOST_KEEPERS + 1) and isinstance(thing[1], bool) and isinstance(thing[2], list)


def are_steps(steps, own, signs, keepers):
    return all([is_step(step, own, signs, keepers) for step in steps])


# own is how many keepers the step's room has, keepers how many each room has.
def is_step(thing, own, signs, keepers):
    if not is_tuple_of(thing, 4):
        return False
    if not is_one_of(thing[0], signs) or not is_ask(thing[1], own) or not is_below(thing[2], len(keepers)):
        return False
    return are_fills(thing[3], own, keepers[thing[2]])


def is_ask(thing, own):
    return is_one_of(thing, ("fresh", "any")) or is_below(thing, own)


def are_fills(thing, own, many):
    return is_tuple_of(thing, many) and all([is_fill(fill, own) for fill in thing])


def is_fill(thing, own):
    return thing is None or is_one_of(thing, ("new",)) or is_below(thing, own)
