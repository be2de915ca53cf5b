"""Things that several tests hand in, and what they ask of refusals and lists."""

import random
import signal

from freshrooms import errors

REFUSALS = [
    errors.NoExchange, errors.NoText, errors.NoMachine, errors.NoWay, errors.NotSingle, errors.NoFit, errors.TooGreat,
    errors.NoRow, errors.NoName,
]

ANYTHING = [
    None, True, False, 0, 1, -1, 10 ** 5000, "", "a", "machine", b"a", [], (), {}, set(), object(), int, len,
    [None], (None,), (None, None), ([], []), (["a"], []), ([], [(0, True, [])]), {"a": 1},
    ("a", "b"), ((), ()), (1, 2), (True, False), ({}, {}), ([[]], [[]]), ([()], [()]),
]


class Pliant:
    """Equal to everything: no text, whatever it says."""

    def __eq__(self, other):
        return True

    __hash__ = None


class Stubborn:
    """Fails wherever it is compared."""

    def __eq__(self, other):
        raise RuntimeError

    __hash__ = None


class AtOnce:
    """Fails what takes longer than the seconds within it."""

    def __init__(self, seconds):
        self.seconds = seconds

    def __enter__(self):
        self.before = signal.signal(signal.SIGALRM, self.fail)
        signal.alarm(self.seconds)

    def __exit__(self, *error):
        signal.alarm(0)
        signal.signal(signal.SIGALRM, self.before)

    def fail(self, *what):
        raise AssertionError("the answer did not come at once")


def check_refused(case, refusal, call, *handed):
    """The call is refused with this class, which stands under RoomError and ValueError and no other refusal."""
    with case.assertRaises(refusal) as caught:
        call(*handed)
    case.assertIsInstance(caught.exception, errors.RoomError)
    case.assertIsInstance(caught.exception, ValueError)
    case.assertEqual([one for one in REFUSALS if isinstance(caught.exception, one)], [refusal])


def lists_within(thing):
    """Every list within the thing, and itself if it is one."""
    held = [thing] if isinstance(thing, list) else []
    if isinstance(thing, (list, tuple)):
        for part in thing:
            held.extend(lists_within(part))
    return held


def some_machines(many):
    """Machines (8) of all sorts, the same ones each time."""
    return [chance_machine(random.Random(seed)) for seed in range(many)]


def chance_machine(chance):
    signs = ["a", "b", "room"][:chance.randint(1, 3)]
    keepers = [chance.randint(0, 3) for number in range(chance.randint(1, 4))]
    return (signs, [(own, chance.random() < 0.4, [
        chance_step(chance, signs, own, keepers) for number in range(chance.randint(0, 5))
    ]) for own in keepers])


def chance_step(chance, signs, own, keepers):
    to = chance.randrange(len(keepers))
    asks = chance.choice(["fresh", "any"] + list(range(own)))
    return (chance.choice(signs), asks, to, tuple(
        chance.choice(["new", None] + list(range(own))) for number in range(keepers[to])
    ))


def some_plains(many):
    """Plain machines (13) of all sorts, the same ones each time."""
    return [chance_plain(random.Random(seed)) for seed in range(many)]


def chance_plain(chance):
    signs = ["a", "b", "room"][:chance.randint(1, 3)]
    keepers = [0] + [chance.randint(0, 3) for number in range(chance.randint(0, 5))]
    return (signs, [(own, chance.random() < 0.5, [
        [chance_case(chance, own, own, keepers) for number in range(own)] + [chance_case(chance, own, own + 1, keepers)]
        for sign in signs
    ]) for own in keepers])


def chance_case(chance, own, end, keepers):
    rooms = [number for number, many in enumerate(keepers) if many <= end]
    if chance.random() < 0.15:
        return None
    to = chance.choice(rooms)
    return (to, tuple(chance.sample(range(end), keepers[to])))


def some_rows(many, most_signs, most_names):
    """Rows of all sorts, now and then with a sign that no machine above has."""
    chance = random.Random(most_signs)
    rows = [[]]
    for number in range(many):
        signs = ["a"] * 6 + ["b"] * 3 + ["room", "zz"]
        rows.append([
            (chance.choice(signs), chance.choice([0, -1, 5, 10 ** 59, 3, 7][:most_names]))
            for place in range(chance.randint(1, most_signs))
        ])
    return rows


def some_singles(many):
    """Machines (8) whose steps ask for unlike things, so that most of them, but not all, are told singly."""
    return [chance_single(random.Random(seed)) for seed in range(many)]


def chance_single(chance):
    signs = ["a", "b", "room"][:chance.randint(1, 3)]
    keepers = [chance.randint(0, 3) for number in range(chance.randint(1, 6))]
    rooms = []
    for own in keepers:
        steps = []
        for sign in signs:
            asked = ["any"] if chance.random() < 0.2 else ["fresh"] + list(range(own))
            for asks in chance.sample(asked, chance.randint(len(asked) // 2, len(asked))):
                to = chance.randrange(len(keepers))
                steps.append((sign, asks, to, chance_fills(chance, own, keepers[to], asks)))
        chance.shuffle(steps)
        rooms.append((own, chance.random() < 0.4, steps))
    return (signs, rooms)


def chance_fills(chance, own, many, asks):
    """Mostly unlike ones, now and then one twice: then two keepers hold one name."""
    if chance.random() < 0.3:
        return tuple(chance.choice(["new", None] + list(range(own))) for number in range(many))
    things = [thing for thing in ["new"] + list(range(own)) if thing != asks] + [None] * many
    return tuple(chance.sample(things, many))


def shuffled(plain, chance):
    """The same machine with its rooms, but room 0, and the keepers of each room in another order."""
    signs, rooms = plain
    places = [0] + chance.sample(range(1, len(rooms)), len(rooms) - 1)
    orders = [chance.sample(range(own), own) for own, good, steps in rooms]

    def turned_case(room, case):
        if case is None:
            return None
        new = orders[room] + [rooms[room][0]]
        return (places.index(case[0]), tuple(new.index(case[1][old]) for old in orders[case[0]]))

    return (list(signs), [
        (rooms[room][0], rooms[room][1], [
            [turned_case(room, cases[old]) for old in orders[room] + [rooms[room][0]]] for cases in rooms[room][2]
        ])
        for room in places
    ])


def doubled(plain, chance):
    """The same machine with each room twice; which of the two is come to is left to chance."""
    signs, rooms = plain
    return (list(signs), [
        (own, good, [
            [case and (case[0] + len(rooms) * chance.randint(0, 1), case[1]) for case in cases] for cases in steps
        ])
        for own, good, steps in rooms + rooms
    ])


def great_plain(chance, rooms=12, keepers=3, good=0.5, nowhere=0.0):
    """A small plain machine as great as can be: three signs, and keepers gathered room by room."""
    owns = [min(number, keepers) for number in range(rooms)]

    def case(own, end):
        most = max(many for many in owns if many <= end)
        if chance.random() < nowhere:
            return None
        to = chance.choice([room for room, many in enumerate(owns) if many == most or (many < most and chance.random() < 0.1)])
        return (to, tuple(chance.sample(range(end), owns[to])))

    return (["a", "b", "c"], [
        (own, chance.random() < good, [[case(own, own) for number in range(own)] + [case(own, own + 1)] for sign in "abc"])
        for own in owns
    ])


def with_rooms(rooms, keepers=0, signs=("a",)):
    """A plain machine of so many rooms, all good, with as many keepers in each but room 0, and no case told."""
    return (list(signs), [
        (own, True, [[None] * (own + 1) for sign in signs]) for own in [0] + [keepers] * (rooms - 1)
    ])
