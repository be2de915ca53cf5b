"""Things that several tests hand in, and what they ask of refusals and lists."""

import random

from freshrooms import errors

REFUSALS = [
    errors.NoExchange, errors.NoText, errors.NoMachine, errors.NoWay, errors.NotSingle, errors.NoFit, errors.TooGreat,
    errors.NoRow, errors.NoName,
]

ANYTHING = [
    None, True, False, 0, 1, -1, 10 ** 5000, "", "a", "machine", b"a", [], (), {}, set(), object(), int, len,
    [None], (None,), (None, None), ([], []), (["a"], []), ([], [(0, True, [])]), {"a": 1},
    ("a", "b"), ((), ()), (1, 2), (True, False), ({}, {}), ([[]], [[]]), ([()], [()]),
]


class Pliant:
    """Equal to everything: no text, whatever it says."""

    def __eq__(self, other):
        return True

    __hash__ = None


class Stubborn:
    """Fails wherever it is compared."""

    def __eq__(self, other):
        raise RuntimeError

    __hash__ = None


def check_refused(case, refusal, call, *handed):
    """The call is refused with this class, which stands under RoomError and ValueError and no other refusal."""
    with case.assertRaises(refusal) as caught:
        call(*handed)
    case.assertIsInstance(caught.exception, errors.RoomError)
    case.assertIsInstance(caught.exception, ValueError)
    case.assertEqual([one for one in REFUSALS if isinstance(caught.exception, one)], [refusal])


def lists_within(thing):
    """Every list within the thing, and itself if it is one."""
    held = [thing] if isinstance(thing, list) else []
    if isinstance(thing, (list, tuple)):
        for part in thing:
            held.extend(lists_within(part))
    return held


def some_machines(many):
    """Machines (8) of all sorts, the same ones each time."""
    return [chance_machine(random.Random(seed)) for seed in range(many)]


def chance_machine(chance):
    signs = ["a", "b", "room"][:chance.randint(1, 3)]
    keepers = [chance.randint(0, 3) for number in range(chance.randint(1, 4))]
    return (signs, [(own, chance.random() < 0.4, [
        chance_step(chance, signs, own, keepers) for number in range(chance.randint(0, 5))
    ]) for own in keepers])


def chance_step(chance, signs, own, keepers):
    to = chance.randrange(len(keepers))
    asks = chance.choice(["fresh", "any"] + list(range(own)))
    return (chance.choice(signs), asks, to, tuple(
        chance.choice(["new", None] + list(range(own))) for number in range(keepers[to])
    ))


def some_plains(many):
    """Plain machines (13) of all sorts, the same ones each time."""
    return [chance_plain(random.Random(seed)) for seed in range(many)]


def chance_plain(chance):
    signs = ["a", "b", "room"][:chance.randint(1, 3)]
    keepers = [0] + [chance.randint(0, 3) for number in range(chance.randint(0, 5))]
    return (signs, [(own, chance.random() < 0.5, [
        [chance_case(chance, own, own, keepers) for number in range(own)] + [chance_case(chance, own, own + 1, keepers)]
        for sign in signs
    ]) for own in keepers])


def chance_case(chance, own, end, keepers):
    rooms = [number for number, many in enumerate(keepers) if many <= end]
    if chance.random() < 0.15:
        return None
    to = chance.choice(rooms)
    return (to, tuple(chance.sample(range(end), keepers[to])))


def some_rows(many, most_signs, most_names):
    """Rows of all sorts, now and then with a sign that no machine above has."""
    chance = random.Random(most_signs)
    rows = [[]]
    for number in range(many):
        signs = ["a"] * 6 + ["b"] * 3 + ["room", "zz"]
        rows.append([
            (chance.choice(signs), chance.choice([0, -1, 5, 10 ** 59, 3, 7][:most_names]))
            for place in range(chance.randint(1, most_signs))
        ])
    return rows
