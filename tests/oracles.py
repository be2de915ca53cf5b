"""What the document says of machines, worked out slowly and apart from the program."""

import itertools


def fits_slowly(step, kept, sign, name):
    holding = [number for number, held in enumerate(kept) if held == name]
    return step[0] == sign and (step[1] == "any" or (step[1] == "fresh" and not holding) or step[1] in holding)


def filled_slowly(step, kept, name):
    return tuple(None if fill is None else name if fill == "new" else kept[fill] for fill in step[3])


def standings_of(machine, names):
    """Every standing of a machine (8) to which some row of these names leads, each with the steps that fit it."""
    first = (0, (None,) * machine[1][0][0])
    told, waiting = {}, [first]
    while waiting:
        room, kept = waiting.pop()
        if (room, kept) in told:
            continue
        told[room, kept] = {
            (sign, name): [step for step in machine[1][room][2] if fits_slowly(step, kept, sign, name)]
            for sign in machine[0] for name in names
        }
        for (sign, name), steps in told[room, kept].items():
            waiting.extend((step[2], filled_slowly(step, kept, name)) for step in steps)
    return told


def is_single_slowly(machine):
    """Three keepers hold three names at most, so of four names one is always held by none."""
    return all(len(steps) <= 1 for fitting in standings_of(machine, range(4)).values() for steps in fitting.values())


def places_slowly(kept):
    names = list(dict.fromkeys(name for name in kept if name is not None))
    return names, tuple(None if name is None else names.index(name) for name in kept)


def plain_slowly(machine):
    """The plain form of a machine that is told singly, with its pairs; the names are great ones here."""
    signs, rooms = machine
    pairs, told = [(0, (None,) * rooms[0][0])], []
    for room, places in pairs:
        held = [number for number in dict.fromkeys(places) if number is not None]
        kept = tuple(None if place is None else 10 ** 50 + place for place in places)
        steps = []
        for sign in signs:
            cases = []
            for name in [10 ** 50 + number for number in range(len(held))] + [-7]:
                fit = [step for step in rooms[room][2] if fits_slowly(step, kept, sign, name)]
                if not fit:
                    cases.append(None)
                    continue
                names, later = places_slowly(filled_slowly(fit[0], kept, name))
                if (fit[0][2], later) not in pairs:
                    pairs.append((fit[0][2], later))
                fills = tuple(len(held) if name == -7 else name - 10 ** 50 for name in names)
                cases.append((pairs.index((fit[0][2], later)), fills))
            steps.append(cases)
        told.append((len(held), rooms[room][1], steps))
    return (list(signs), told), pairs


def read_slowly(plain, standing, sign, name):
    """The standing behind: each case is asked whether it is the one."""
    if standing is None:
        return None
    signs, rooms = plain
    for place, cases in enumerate(rooms[standing[0]][2]):
        for number, case in enumerate(cases):
            holding = [keeper for keeper, held in enumerate(standing[1]) if held == name]
            if signs[place] == sign and case is not None and number == (holding + [len(standing[1])])[0]:
                return (case[0], tuple(name if fill == len(standing[1]) else standing[1][fill] for fill in case[1]))
    return None


def let_slowly(plain, row):
    standing = (0, ())
    for sign, name in row:
        standing = read_slowly(plain, standing, sign, name)
    return standing is not None and plain[1][standing[0]][1]


def firsts_slowly(one, other, pair):
    """The first standings of a pair (17)."""
    p, q, shared = pair
    ours = list(range(0 if p == -1 else one[1][p][0]))
    theirs = [dict((j, i) for i, j in shared).get(j) for j in range(0 if q == -1 else other[1][q][0])]
    further = itertools.count(len(ours))
    theirs = [next(further) if name is None else name for name in theirs]
    return (None if p == -1 else (p, tuple(ours))), (None if q == -1 else (q, tuple(theirs)))


def pair_slowly(ours, theirs):
    """The pair of two standings."""
    shared = [
        (i, j)
        for i, name in enumerate(ours[1] if ours else ()) for j, other in enumerate(theirs[1] if theirs else ())
        if name == other
    ]
    return (ours[0] if ours else -1, theirs[0] if theirs else -1, tuple(shared))


def after_slowly(one, other, pair):
    """Every pair behind a pair, by (sign, i, j): the keepers of p and of q that hold the name."""
    ours, theirs = firsts_slowly(one, other, pair)
    held = [ours[1] if ours else (), theirs[1] if theirs else ()]
    told = {}
    for sign in one[0]:
        for name in sorted(set(held[0]) | set(held[1])) + [99]:
            i, j = [names.index(name) if name in names else None for names in held]
            told[sign, i, j] = pair_slowly(read_slowly(one, ours, sign, name), read_slowly(other, theirs, sign, name))
    return told


def matchings(many, others):
    """Every way to share some of so many keepers with some of so many others."""
    for size in range(min(many, others) + 1):
        for chosen in itertools.combinations(range(many), size):
            for partners in itertools.permutations(range(others), size):
                yield tuple(zip(chosen, partners))


def all_pairs(one, other):
    for p in range(-1, len(one[1])):
        for q in range(-1, len(other[1])):
            for shared in matchings(0 if p == -1 else one[1][p][0], 0 if q == -1 else other[1][q][0]):
                yield (p, q, shared)


def agree_slowly(one, other, pair):
    return (pair[0] != -1 and one[1][pair[0]][1]) == (pair[1] != -1 and other[1][pair[1]][1])


def parted_slowly(one, other):
    """Each pair that is not alike, with the number of signs of a shortest row that parts it."""
    after = {pair: set(after_slowly(one, other, pair).values()) for pair in all_pairs(one, other)}
    told = {pair: 0 for pair in after if not agree_slowly(one, other, pair)}
    size, going_on = 0, True
    while going_on:
        size += 1
        later = [pair for pair in after if pair not in told and any(next_pair in told for next_pair in after[pair])]
        told.update((pair, size) for pair in later)
        going_on = bool(later)
    return told


def rows_of(signs, many):
    """Every shape of so many signs, rising."""
    told = [[]]
    for place in range(many):
        told = [
            row + [(sign, name)]
            for row in told for sign in signs for name in range(len({name for other, name in row}) + 1)
        ]
    return told
