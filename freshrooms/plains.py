"""Plain machines: what is one, of anything, which are small, and how they read rows [3, 13, 14]."""

from freshrooms.machines import are_signs, is_below, is_tuple_of

MOST_ROOMS = 200
MOST_KEEPERS = 6
SMALL_ROOMS = 12
SMALL_KEEPERS = 3


def is_plain(thing):
    return is_tuple_of(thing, 2) and are_signs(thing[0]) and are_plain_rooms(thing[1], len(thing[0]))


def is_small(plain):
    return len(plain[1]) <= SMALL_ROOMS and all([room[0] <= SMALL_KEEPERS for room in plain[1]])


def read_by(plain, standing, sign, name):
    if standing is None or sign not in plain[0]:
        return None
    names = standing[1]
    cases = plain[1][standing[0]][2][plain[0].index(sign)]
    case = cases[names.index(name) if name in names else len(names)]
    if case is None:
        return None
    # The name read stands behind those that are held, since its number is that of the room's keepers.
    held = names + (name,)
    return (case[0], tuple([held[fill] for fill in case[1]]))


def stands_behind(plain, row):
    standing = (0, ())
    for sign, name in row:
        standing = read_by(plain, standing, sign, name)
    return standing


def plain_lets(plain, row):
    standing = stands_behind(plain, row)
    return standing is not None and plain[1][standing[0]][1]


def is_list_of(thing, many):
    return isinstance(thing, list) and len(thing) == many


def are_plain_rooms(thing, signs):
    if not isinstance(thing, list) or not 1 <= len(thing) <= MOST_ROOMS:
        return False
    # The cases come last, since a case speaks of the keepers of any room.
    if not all([has_plain_frame(room) for room in thing]):
        return False
    keepers = [room[0] for room in thing]
    return keepers[0] == 0 and all([are_plain_steps(room[2], signs, room[0], keepers) for room in thing])


def has_plain_frame(thing):
    return is_tuple_of(thing, 3) and is_below(thing[0], MOST_KEEPERS + 1) and isinstance(thing[1], bool)


# signs is how many signs there are, own how many keepers the case's room has, keepers how many each room has.
def are_plain_steps(thing, signs, own, keepers):
    return is_list_of(thing, signs) and all([are_cases(cases, own, keepers) for cases in thing])


def are_cases(thing, own, keepers):
    if not is_list_of(thing, own + 1):
        return False
    # The name read stands as the number own, in the last case alone: in the others a keeper holds it.
    held = all([is_case(case, own, keepers) for case in thing[:own]])
    return held and is_case(thing[own], own + 1, keepers)


# end is the number below which each fill of the case lies.
def is_case(thing, end, keepers):
    if thing is None:
        return True
    if not is_tuple_of(thing, 2) or not is_below(thing[0], len(keepers)):
        return False
    return are_plain_fills(thing[1], end, keepers[thing[0]])


def are_plain_fills(thing, end, many):
    if not is_tuple_of(thing, many) or not all([is_below(fill, end) for fill in thing]):
        return False
    return len(set(thing)) == many
