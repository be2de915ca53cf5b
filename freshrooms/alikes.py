"""Which pairs of rooms of one plain machine are alike, and which keepers matter [20]."""

from freshrooms.errors import TooGreat
from freshrooms.pairs import agrees, pairs_behind
from freshrooms.plains import is_small


def matters(plain):
    if not is_small(plain):
        raise TooGreat("keepers are judged of machines of at most twelve rooms, and in each at most three keepers")
    return mattering(plain, unlike_among(plain, parted_pairs(plain)))


def parted_pairs(plain):
    pairs = []
    for room, told in enumerate(plain[1]):
        pairs.extend([pair_parted_at(room, told[0], keeper) for keeper in range(told[0])])
    return pairs


def mattering(plain, unlike):
    return [keepers_parted(room, told[0], unlike) for room, told in enumerate(plain[1])]


def keepers_parted(room, many, unlike):
    return [keeper for keeper in range(many) if pair_parted_at(room, many, keeper) in unlike]


def pair_parted_at(room, many, keeper):
    return (room, room, tuple([(other, other) for other in range(many) if other != keeper]))


# Of these pairs, and of all that they lead to, those that are not alike, each with True.
def unlike_among(plain, pairs):
    leading = leading_to(plain, pairs)
    waiting = [pair for pair in leading if not agrees(plain, plain, pair)]
    unlike = dict([(pair, True) for pair in waiting])
    while waiting:
        pair = waiting.pop()
        for ahead in leading[pair]:
            if ahead not in unlike:
                unlike[ahead] = True
                waiting.append(ahead)
    return unlike


# For each pair that is come to, the pairs from which it is come to by a sign with a name.
def leading_to(plain, pairs):
    leading = dict([(pair, []) for pair in pairs])
    waiting = list(leading)
    while waiting:
        pair = waiting.pop()
        for later in pairs_behind(plain, plain, pair):
            if later not in leading:
                leading[later] = []
                waiting.append(later)
            leading[later].append(pair)
    return leading
