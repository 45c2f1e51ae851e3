"""What several tests share: values of wrong kinds, webs, and a check of exceptions."""

import random

from turnedties.webs import Web


class Hostile:
    """Refuses whatever may be asked of it: nothing may be asked of it."""

    __hash__ = None

    def refuse(self, *rest):
        raise AssertionError("the program asked an object of an own class")

    __eq__ = __ne__ = __lt__ = __le__ = __gt__ = __ge__ = refuse
    __len__ = __bool__ = __iter__ = __getitem__ = __contains__ = refuse
    __int__ = __index__ = __repr__ = __str__ = refuse


class Agreeing:
    """Is equal to everything and behaves like the number 1."""

    __hash__ = None

    def agree(self, other):
        return True

    __eq__ = __lt__ = __le__ = __gt__ = __ge__ = agree

    def __index__(self):
        return 1


def looped_list():
    """A list that contains itself."""
    rows = []
    rows.append(rows)
    return rows


def no_integers():
    """Values of many kinds, none of which is an integer."""
    return [
        None, True, False, "", "0", "one", b"", b"\x01", (), (0,), (0, 1), ((0, 1),), [], [0], [[]], [(0, 1)],
        {}, {0: 1}, set(), {1}, range(2), object(), Hostile(), Agreeing(), Hostile, len, looped_list(),
    ]


def numbers_outside(low, high):
    """Integers beside the range from low to high, near it and far from it."""
    return [low - 1, low - 2, high + 1, high + 2, 10 ** 60, -10 ** 60, 10 ** 5000, -10 ** 5000]


def random_webs(count, seed):
    """Webs of many sizes, with loops, parallel edges and several components."""
    source = random.Random(seed)
    webs = []
    for at in range(count):
        size = source.randint(1, 30 if at % 5 == 0 else 8)
        edges = [
            (source.randrange(size), source.randrange(size))
            for number in range(source.randint(0, min(60, 2 * size)))
        ]
        webs.append(Web(size, edges, modulus=source.choice([0, 2, 3, 5, 12, 59, 60])))
    return webs


def random_gains(source, web):
    """Gains of the web, with many digits if there is no modulus."""
    if web.modulus() == 0:
        return [source.randint(-10 ** 30, 10 ** 30) for edge in web.edges()]
    return [source.randrange(web.modulus()) for edge in web.edges()]


def random_potential(source, web):
    """A potential of the web, with many digits if there is no modulus."""
    if web.modulus() == 0:
        return [source.randint(-10 ** 30, 10 ** 30) for node in range(web.size())]
    return [source.randrange(web.modulus()) for node in range(web.size())]


def random_fixed(source, web):
    """Some nodes of the web, as a list or a tuple, in any order."""
    nodes = source.sample(range(web.size()), source.randint(0, min(3, web.size())))
    return source.choice([list, tuple])(nodes)


def shuffled(source, table):
    """The dict in any order."""
    pairs = list(table.items())
    source.shuffle(pairs)
    return dict(pairs)


def random_walk(source, web):
    """A walk of the web, None if it has no edges."""
    if len(web) == 0:
        return None
    node = source.choice(web.edge(source.randrange(len(web))))
    walk = []
    for at in range(source.randint(1, 12)):
        steps = [(number, 1) for number in range(len(web)) if web.edge(number)[0] == node]
        steps += [(number, -1) for number in range(len(web)) if web.edge(number)[1] == node]
        number, way = source.choice(steps)
        walk.append((number, way))
        node = web.edge(number)[1 if way == 1 else 0]
    return walk


def check_raises(case, error, value, action):
    """Check that the action raises exactly this error with the very value."""
    with case.assertRaises(error) as caught:
        action()
    case.assertIs(error, type(caught.exception))
    case.assertIs(value, caught.exception.value)


def check_order(case, function, good, faults):
    """Check which exception comes first.

    Each fault is the name of an argument, an error and a value; from each fault on, all later ones are there, too.
    """
    for at, (name, error, value) in enumerate(faults):
        arguments = {**good, **{later[0]: later[2] for later in faults[at:]}}
        check_raises(case, error, value, lambda: function(**arguments))


def check_each_value(case, function, good, name, error, values):
    """Check that the argument is rejected with the error, whichever of these values it is."""
    for value in values:
        check_raises(case, error, value, lambda: function(**{**good, name: value}))


def no_residues(modulus):
    """Values that are no residues for the modulus."""
    if modulus == 0:
        return no_integers()
    return no_integers() + numbers_outside(0, modulus - 1)


def no_rows(good, wrong):
    """Values that are no list like the good one, which is not empty, with no entry like the wrong ones."""
    rows = [tuple(good), good[:-1], good + [good[0]], good * 2, [good], {at: entry for at, entry in enumerate(good)}]
    rows += [None, True, 0, 7, "", "0", b"\x00", (), [], {}, set(), object(), Hostile(), Agreeing(), looped_list(), len]
    for entry in wrong:
        rows += [[entry] + good[1:], good[:-1] + [entry]]
    return rows


def no_fixed(size):
    """Values that are no fixed nodes of a web of that size, from 2 on."""
    wrong = [None, True, 0, 1, "", "0", {}, {0: 1}, {0}, set(), range(1), object(), Hostile(), Agreeing(), len]
    for entry in no_integers() + numbers_outside(0, size - 1):
        wrong += [[entry], (entry,), [0, entry], (entry, 1)]
    return wrong + [[0, 0], (1, 0, 1), list(range(size)) * 2, looped_list()]


def no_weights(size):
    """Values other than None that are no weights of a web of that size."""
    wrong = [False, True, 0, 1, "", "1" * size, {}, {0: 1}, {1}, set(), object(), Hostile(), Agreeing(), len]
    wrong += [[], (), [1] * (size - 1), (1,) * (size + 1), [[1] * size], looped_list(), b"\x01" * size, range(1, size + 1)]
    for entry in no_integers() + [0, -1, -10 ** 60, -10 ** 5000]:
        wrong += [[entry] + [1] * (size - 1), (1,) * (size - 1) + (entry,)]
    return wrong


def check_raises_count(case, error, count, action):
    """Check that the action raises exactly this error with an equal number."""
    with case.assertRaises(error) as caught:
        action()
    case.assertIs(error, type(caught.exception))
    case.assertEqual(count, caught.exception.value)
