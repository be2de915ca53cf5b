"""Two plain machines compared: a table that tells them alike, or a row that parts them [19]."""

from freshrooms.errors import NoFit, TooGreat
from freshrooms.pairs import FIRST_PAIR, agrees, first_standings, held_by_both, read_by_both, steps_from
from freshrooms.plains import is_small


def compared(one, other, pair=None):
    if one[0] != other[0]:
        raise NoFit("machines of unlike signs are not compared")
    if not is_small(one) or not is_small(other):
        raise TooGreat("machines are compared that have at most twelve rooms, and in each at most three keepers")
    return searched(one, other, FIRST_PAIR if pair is None else pair)


def searched(one, other, first):
    # Pairs are found in the order of how many signs lead to them, so the row to the first that parts is a shortest.
    ways = {first: None}
    found = [first]
    done = 0
    while done < len(found):
        pair = found[done]
        if not agrees(one, other, pair):
            return ("apart", parting_row(one, other, first, steps_to(ways, pair)))
        for sign, name, later in steps_from(one, other, pair):
            if later not in ways:
                ways[later] = (pair, sign, name)
                found.append(later)
        done += 1
    return ("alike", found)


def steps_to(ways, pair):
    steps = []
    way = ways[pair]
    while way is not None:
        steps.append((way[1], way[2]))
        way = ways[way[0]]
    return list(reversed(steps))


def parting_row(one, other, first, steps):
    # Each step tells its name by its place among those held there, for they may have been exchanged on the way.
    standings = first_standings(one, other, first)
    row = []
    for sign, place in steps:
        held = held_by_both(standings)
        name = held[place] if place < len(held) else least_beside(held)
        row.append((sign, name))
        standings = read_by_both(one, other, standings, sign, name)
    return row


# Fewer names are held at once than there are from 0 to the sum of the most keepers, so this one is among them.
def least_beside(names):
    least = 0
    while least in names:
        least += 1
    return least
