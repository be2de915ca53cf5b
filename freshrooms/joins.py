"""A plain machine turned, and two of them joined [22, 23]."""

from freshrooms.errors import NoFit, TooGreat
from freshrooms.pairs import (
    FIRST_PAIR, NOWHERE, first_standings, held_by_both, is_good_in, pair_of, read_by_both,
)
from freshrooms.plains import is_small

WORDS = ("both", "either", "first", "one")
MOST_ROOMS = 40


def turned(plain):
    end = len(plain[1])
    rooms = [(room[0], not room[1], [led_to(end, cases) for cases in room[2]]) for room in plain[1]]
    if any([lacks_cases(room) for room in plain[1]]):
        rooms.append((0, True, [[(end, ())] for sign in plain[0]]))
    return (list(plain[0]), rooms)


def led_to(end, cases):
    return [(end, ()) if case is None else case for case in cases]


def lacks_cases(room):
    return any([None in cases for cases in room[2]])


def joined(word, one, other):
    if word not in WORDS or one[0] != other[0]:
        raise NoFit("machines of the same signs are joined by both, either, first or one")
    if not is_small(one) or not is_small(other):
        raise TooGreat("machines are joined that have at most twelve rooms, and in each at most three keepers")
    numbers = {FIRST_PAIR: 0}
    rooms = []
    while len(rooms) < len(numbers):
        if len(numbers) > MOST_ROOMS:
            raise TooGreat("a joined machine has at most forty rooms")
        rooms.append(joined_room(word, one, other, list(numbers)[len(rooms)], numbers))
    return ((list(one[0]), rooms), list(numbers))


def joined_room(word, one, other, pair, numbers):
    # The names of the first standings are the numbers of the joined room's keepers.
    standings = first_standings(one, other, pair)
    own = len(held_by_both(standings))
    steps = []
    for sign in one[0]:
        later = [read_by_both(one, other, standings, sign, name) for name in range(own + 1)]
        steps.append([joined_case(both, numbers) for both in later])
    return (own, is_good_by(word, is_good_in(one, pair[0]), is_good_in(other, pair[1])), steps)


# A pair that wasn't found ahead gets the next number, and stands in numbers from here on.
def joined_case(standings, numbers):
    pair = pair_of(standings)
    if pair == (NOWHERE, NOWHERE, ()):
        return None
    return (numbers.setdefault(pair, len(numbers)), held_by_both(standings))


def is_good_by(word, ours, theirs):
    if word == "both":
        return ours and theirs
    if word == "either":
        return ours or theirs
    if word == "first":
        return ours and not theirs
    return ours != theirs
