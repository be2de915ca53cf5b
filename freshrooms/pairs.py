"""Pairs of rooms of two plain machines, their first standings, and the pairs behind them [17, 18]."""

from freshrooms.plains import read_by

NOWHERE = -1
FIRST_PAIR = (0, 0, ())


def pair_behind(one, other, pair, sign, i, j):
    standings = first_standings(one, other, pair)
    if i is not None:
        name = i
    elif j is not None:
        name = standings[1][1][j]
    else:
        name = len(held_by_both(standings))
    return pair_of(read_by_both(one, other, standings, sign, name))


def pairs_behind(one, other, pair):
    return sorted(set([step[2] for step in steps_from(one, other, pair)]))


def agrees(one, other, pair):
    return is_good_in(one, pair[0]) == is_good_in(other, pair[1])


# Each step is a tuple (sign, name, pair behind), the name one of the first standings or, the last one, held by none.
def steps_from(one, other, pair):
    standings = first_standings(one, other, pair)
    names = list(range(len(held_by_both(standings)) + 1))
    steps = []
    for sign in sorted(set(one[0] + other[0])):
        for name in names:
            steps.append((sign, name, pair_of(read_by_both(one, other, standings, sign, name))))
    return steps


def first_standings(one, other, pair):
    own = keepers_in(one, pair[0])
    shared = dict([(j, i) for i, j in pair[2]])
    names = []
    for j in range(keepers_in(other, pair[1])):
        # Those of q that came ahead and aren't shared hold the names from own on already.
        names.append(shared[j] if j in shared else own + len([name for name in names if name >= own]))
    return (standing_in(pair[0], list(range(own))), standing_in(pair[1], names))


def read_by_both(one, other, standings, sign, name):
    return (read_by(one, standings[0], sign, name), read_by(other, standings[1], sign, name))


def pair_of(standings):
    ours = names_of(standings[0])
    theirs = names_of(standings[1])
    shared = [(i, theirs.index(name)) for i, name in enumerate(ours) if name in theirs]
    return (room_of(standings[0]), room_of(standings[1]), tuple(shared))


# In the first standings of a pair these are the numbers from 0 on, in order.
def held_by_both(standings):
    ours = names_of(standings[0])
    return ours + tuple([name for name in names_of(standings[1]) if name not in ours])


def standing_in(room, names):
    return None if room == NOWHERE else (room, tuple(names))


def room_of(standing):
    return NOWHERE if standing is None else standing[0]


def names_of(standing):
    return () if standing is None else standing[1]


def keepers_in(plain, room):
    return 0 if room == NOWHERE else plain[1][room][0]


def is_good_in(plain, room):
    return room != NOWHERE and plain[1][room][1]
