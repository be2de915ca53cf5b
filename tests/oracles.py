"""What the document says of machines, worked out slowly and apart from the program."""

import itertools


def fits_slowly(step, kept, sign, name):
    holding = [number for number, held in enumerate(kept) if held == name]
    return step[0] == sign and (step[1] == "any" or (step[1] == "fresh" and not holding) or step[1] in holding)


def filled_slowly(step, kept, name):
    return tuple(None if fill is None else name if fill == "new" else kept[fill] for fill in step[3])


def standings_of(machine, names):
    """Every standing of a machine (8) to which some row of these names leads, each with the steps that fit it."""
    first = (0, (None,) * machine[1][0][0])
    told, waiting = {}, [first]
    while waiting:
        room, kept = waiting.pop()
        if (room, kept) in told:
            continue
        told[room, kept] = {
            (sign, name): [step for step in machine[1][room][2] if fits_slowly(step, kept, sign, name)]
            for sign in machine[0] for name in names
        }
        for (sign, name), steps in told[room, kept].items():
            waiting.extend((step[2], filled_slowly(step, kept, name)) for step in steps)
    return told


def is_single_slowly(machine):
    """Three keepers hold three names at most, so of four names one is always held by none."""
    return all(len(steps) <= 1 for fitting in standings_of(machine, range(4)).values() for steps in fitting.values())


def places_slowly(kept):
    names = list(dict.fromkeys(name for name in kept if name is not None))
    return names, tuple(None if name is None else names.index(name) for name in kept)


def plain_slowly(machine):
    """The plain form of a machine that is told singly, with its pairs; the names are great ones here."""
    signs, rooms = machine
    pairs, told = [(0, (None,) * rooms[0][0])], []
    for room, places in pairs:
        held = [number for number in dict.fromkeys(places) if number is not None]
        kept = tuple(None if place is None else 10 ** 50 + place for place in places)
        steps = []
        for sign in signs:
            cases = []
            for name in [10 ** 50 + number for number in range(len(held))] + [-7]:
                fit = [step for step in rooms[room][2] if fits_slowly(step, kept, sign, name)]
                if not fit:
                    cases.append(None)
                    continue
                names, later = places_slowly(filled_slowly(fit[0], kept, name))
                if (fit[0][2], later) not in pairs:
                    pairs.append((fit[0][2], later))
                fills = tuple(len(held) if name == -7 else name - 10 ** 50 for name in names)
                cases.append((pairs.index((fit[0][2], later)), fills))
            steps.append(cases)
        told.append((len(held), rooms[room][1], steps))
    return (list(signs), told), pairs


def read_slowly(plain, standing, sign, name):
    """The standing behind: each case is asked whether it is the one."""
    if standing is None:
        return None
    signs, rooms = plain
    for place, cases in enumerate(rooms[standing[0]][2]):
        for number, case in enumerate(cases):
            holding = [keeper for keeper, held in enumerate(standing[1]) if held == name]
            if signs[place] == sign and case is not None and number == (holding + [len(standing[1])])[0]:
                return (case[0], tuple(name if fill == len(standing[1]) else standing[1][fill] for fill in case[1]))
    return None


def let_slowly(plain, row):
    standing = (0, ())
    for sign, name in row:
        standing = read_slowly(plain, standing, sign, name)
    return standing is not None and plain[1][standing[0]][1]


def firsts_slowly(one, other, pair):
    """The first standings of a pair (17)."""
    p, q, shared = pair
    ours = list(range(0 if p == -1 else one[1][p][0]))
    theirs = [dict((j, i) for i, j in shared).get(j) for j in range(0 if q == -1 else other[1][q][0])]
    further = itertools.count(len(ours))
    theirs = [next(further) if name is None else name for name in theirs]
    return (None if p == -1 else (p, tuple(ours))), (None if q == -1 else (q, tuple(theirs)))


def pair_slowly(ours, theirs):
    """The pair of two standings."""
    shared = [
        (i, j)
        for i, name in enumerate(ours[1] if ours else ()) for j, other in enumerate(theirs[1] if theirs else ())
        if name == other
    ]
    return (ours[0] if ours else -1, theirs[0] if theirs else -1, tuple(shared))


def after_slowly(one, other, pair):
    """Every pair behind a pair, by (sign, i, j): the keepers of p and of q that hold the name."""
    ours, theirs = firsts_slowly(one, other, pair)
    held = [ours[1] if ours else (), theirs[1] if theirs else ()]
    told = {}
    for sign in one[0]:
        for name in sorted(set(held[0]) | set(held[1])) + [99]:
            i, j = [names.index(name) if name in names else None for names in held]
            told[sign, i, j] = pair_slowly(read_slowly(one, ours, sign, name), read_slowly(other, theirs, sign, name))
    return told


def matchings(many, others):
    """Every way to share some of so many keepers with some of so many others."""
    for size in range(min(many, others) + 1):
        for chosen in itertools.combinations(range(many), size):
            for partners in itertools.permutations(range(others), size):
                yield tuple(zip(chosen, partners))


def all_pairs(one, other):
    for p in range(-1, len(one[1])):
        for q in range(-1, len(other[1])):
            for shared in matchings(0 if p == -1 else one[1][p][0], 0 if q == -1 else other[1][q][0]):
                yield (p, q, shared)


def agree_slowly(one, other, pair):
    return (pair[0] != -1 and one[1][pair[0]][1]) == (pair[1] != -1 and other[1][pair[1]][1])


def parted_slowly(one, other):
    """Each pair that is not alike, with the number of signs of a shortest row that parts it."""
    after = {pair: set(after_slowly(one, other, pair).values()) for pair in all_pairs(one, other)}
    told = {pair: 0 for pair in after if not agree_slowly(one, other, pair)}
    size, going_on = 0, True
    while going_on:
        size += 1
        later = [pair for pair in after if pair not in told and any(next_pair in told for next_pair in after[pair])]
        told.update((pair, size) for pair in later)
        going_on = bool(later)
    return told


def rows_of(signs, many):
    """Every shape of so many signs, rising."""
    told = [[]]
    for place in range(many):
        told = [
            row + [(sign, name)]
            for row in told for sign in signs for name in range(len({name for other, name in row}) + 1)
        ]
    return told


def alike_slowly(one, other, pair=(0, 0, ())):
    """Whether all pairs that are come to from the pair agree."""
    told, waiting = {pair}, [pair]
    while waiting:
        held = waiting.pop()
        if not agree_slowly(one, other, held):
            return False
        later = set(after_slowly(one, other, held).values()) - told
        told |= later
        waiting.extend(later)
    return True


def found_slowly(plain):
    """The rooms that are come to from room 0, in the order in which they are found, each with the case that finds it."""
    finders = {0: None}
    for room in range(len(plain[1])):
        if room >= len(finders):
            break
        room = list(finders)[room]
        for place, cases in enumerate(plain[1][room][2]):
            for number, case in enumerate(cases):
                if case is not None:
                    finders.setdefault(case[0], (room, place, number))
    return finders


def fills_beside(plain, room, number, many):
    """All fills of so many keepers that the case of this number may have."""
    own = plain[1][room][0]
    return sorted(itertools.permutations(range(own + (number == own)), many))


def least_faults(plain, least):
    """What the document says of the least machine of a plain machine, and isn't so."""
    faults = []
    if least[0] != plain[0] or not alike_slowly(plain, least):
        faults.append("it doesn't let the same rows by")
    finders = found_slowly(least)
    if list(finders) != list(range(len(least[1]))):
        faults.append("rooms aren't numbered as they are found, or are not come to")
    parted = parted_slowly(least, least)
    dead = [room for room in range(len(least[1])) if (room, -1, ()) not in parted]
    if dead not in ([], [0]):
        faults.append("no row leads from a room to a good one")
    for room, (own, good, steps) in enumerate(least[1]):
        for keeper in range(own):
            if (room, room, tuple((other, other) for other in range(own) if other != keeper)) not in parted:
                faults.append("a keeper doesn't matter")
        for place, cases in enumerate(steps):
            for number, case in enumerate(cases):
                faults.extend(case_faults(least, parted, dead, finders, (room, place, number), case))
    if any(p != q and -1 not in (p, q) and (p, q, shared) not in parted for p, q, shared in all_pairs(least, least)):
        faults.append("a pair of two unlike rooms is alike")
    return faults


def case_faults(least, parted, dead, finders, at, case):
    if case is None:
        return []
    if case[0] in dead:
        return ["a case leads where no row leads to a good room"]
    if finders[case[0]] == at:
        return [] if list(case[1]) == sorted(case[1]) else ["the fills of a case that finds a room don't rise"]
    for fills in fills_beside(least, at[0], at[2], len(case[1])):
        shared = tuple((i, fills.index(name)) for i, name in enumerate(case[1]) if name in fills)
        if fills < case[1] and (case[0], case[0], shared) not in parted:
            return ["fills are not the least that lead to a standing that is alike"]
    return []


GOOD_BY = {
    "both": lambda ours, theirs: ours and theirs,
    "either": lambda ours, theirs: ours or theirs,
    "first": lambda ours, theirs: ours and not theirs,
    "one": lambda ours, theirs: (ours and not theirs) or (theirs and not ours),
}


def good_slowly(plain, room):
    return room != -1 and plain[1][room][1]


def keepers_joined(one, other, pair):
    """The joined room's keepers: ("p", i) and, those of q that aren't shared, ("q", j)."""
    p, q, shared = pair
    ours = [("p", i) for i in range(0 if p == -1 else one[1][p][0])]
    return ours + [("q", j) for j in range(0 if q == -1 else other[1][q][0]) if j not in [later for i, later in shared]]


def joined_slowly(word, one, other):
    """The joined machine with its pairs, however many there are."""
    pairs, rooms = [(0, 0, ())], []
    for pair in pairs:
        keepers = keepers_joined(one, other, pair)
        after = after_slowly(one, other, pair)
        steps = []
        for sign in one[0]:
            cases = []
            for keeper in keepers + [None]:
                i, j = holding(keeper, pair[2])
                later = after[sign, i, j]
                if later != (-1, -1, ()) and later not in pairs:
                    pairs.append(later)
                fills = tuple(
                    keepers.index(source) if source in keepers else len(keepers)
                    for source in sources(one, other, pair, later, sign, i, j)
                )
                cases.append(None if later == (-1, -1, ()) else (pairs.index(later), fills))
            steps.append(cases)
        good = GOOD_BY[word](good_slowly(one, pair[0]), good_slowly(other, pair[1]))
        rooms.append((len(keepers), good, steps))
    return (list(one[0]), rooms), pairs


def holding(keeper, shared):
    """The keepers of p and of q that hold the name of a joined keeper."""
    if keeper is None:
        return None, None
    side, number = keeper
    return (number, dict(shared).get(number)) if side == "p" else (None, number)


def sources(one, other, pair, later, sign, i, j):
    """For each keeper of the joined room behind, the joined keeper whose name it holds, or "read"."""
    partner = dict((theirs, ours) for ours, theirs in pair[2])
    for side, number in keepers_joined(one, other, later):
        plain, room, held = (one, pair[0], i) if side == "p" else (other, pair[1], j)
        own = plain[1][room][0]
        cases = plain[1][room][2][plain[0].index(sign)]
        fill = cases[own if held is None else held][1][number]
        if fill == own:
            # The name read may be held by a keeper of the other room.
            told = ("q", j) if side == "p" else ("p", i)
            yield "read" if told[1] is None else told
        elif side == "q" and fill in partner:
            yield ("p", partner[fill])
        else:
            yield (side, fill)
