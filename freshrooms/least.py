"""The least machine of a plain machine [21]."""

from freshrooms.alikes import matters, unlike_among
from freshrooms.pairs import NOWHERE
from freshrooms.plains import read_by


def least_of(plain):
    folding = Folding(plain)
    rooms = []
    while len(rooms) < len(folding.found):
        rooms.append(folding.room_told(len(rooms)))
    return (list(plain[0]), rooms)


# What is known of a plain machine while its least one is told room by room.
class Folding:
    def __init__(self, plain):
        self.plain = plain
        # A machine that isn't small is refused here.
        self.keepers = matters(plain)
        self.unlike = unlike_among(plain, pairs_to_judge(self.keepers))
        # Each room of the least machine as a tuple (a room of this one, its keepers that matter, in the new order).
        self.found = [(0, ())]

    def room_told(self, number):
        steps = [self.cases_told(number, sign) for sign in self.plain[0]]
        room = self.found[number]
        return (len(room[1]), self.plain[1][room[0]][1], steps)

    def cases_told(self, number, sign):
        standing = self.standing_at(number)
        names = list(range(len(self.found[number][1]) + 1))
        return [self.case_told(read_by(self.plain, standing, sign, name)) for name in names]

    # Its names are the numbers of the least machine's keepers; what doesn't matter is a name below nought, never read.
    def standing_at(self, number):
        room = self.found[number]
        keepers = list(range(self.plain[1][room[0]][0]))
        return (room[0], tuple([room[1].index(keeper) if keeper in room[1] else -1 - keeper for keeper in keepers]))

    def case_told(self, standing):
        if standing is None or (standing[0], NOWHERE, ()) not in self.unlike:
            return None
        names = sorted([standing[1][keeper] for keeper in self.keepers[standing[0]]])
        # Rising, so the first that lead to a standing that is alike are the least.
        orders = orders_of(names)
        for number in range(len(self.found)):
            for fills in orders:
                if self.is_like(standing, number, fills):
                    return (number, fills)
        self.found.append((standing[0], tuple([standing[1].index(name) for name in names])))
        return (len(self.found) - 1, tuple(names))

    def is_like(self, standing, number, fills):
        room = self.found[number]
        if len(room[1]) != len(fills):
            return False
        shared = [(standing[1].index(name), keeper) for name, keeper in zip(fills, room[1])]
        return (standing[0], room[0], tuple(sorted(shared))) not in self.unlike


# Alike are only standings in which the keepers that matter hold the same names, whatever the others hold.
def pairs_to_judge(keepers):
    pairs = [(room, NOWHERE, ()) for room in range(len(keepers))]
    for p, ours in enumerate(keepers):
        for q, theirs in enumerate(keepers):
            if len(ours) == len(theirs):
                pairs.extend([(p, q, tuple(zip(ours, order))) for order in orders_of(theirs)])
    return pairs


def orders_of(things):
    if len(things) == 0:
        return [()]
    orders = []
    for thing in things:
        others = [other for other in things if other != thing]
        orders.extend([(thing,) + order for order in orders_of(others)])
    return orders
