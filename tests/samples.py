"""What several tests share: values of wrong kinds, webs, and a check of exceptions."""

import random

from turnedties.webs import Web


class Hostile:
    """Refuses whatever may be asked of it: nothing may be asked of it."""

    __hash__ = None

    def refuse(self, *rest):
        raise AssertionError("the program asked an object of an own class")

    __eq__ = __ne__ = __lt__ = __le__ = __gt__ = __ge__ = refuse
    __len__ = __bool__ = __iter__ = __getitem__ = __contains__ = refuse
    __int__ = __index__ = __repr__ = __str__ = refuse


class Agreeing:
    """Is equal to everything and behaves like the number 1."""

    __hash__ = None

    def agree(self, other):
        return True

    __eq__ = __lt__ = __le__ = __gt__ = __ge__ = agree

    def __index__(self):
        return 1


def looped_list():
    """A list that contains itself."""
    rows = []
    rows.append(rows)
    return rows


def no_integers():
    """Values of many kinds, none of which is an integer."""
    return [
        None, True, False, "", "0", "one", b"", b"\x01", (), (0,), (0, 1), ((0, 1),), [], [0], [[]], [(0, 1)],
        {}, {0: 1}, set(), {1}, range(2), object(), Hostile(), Agreeing(), Hostile, len, looped_list(),
    ]


def numbers_outside(low, high):
    """Integers beside the range from low to high, near it and far from it."""
    return [low - 1, low - 2, high + 1, high + 2, 10 ** 60, -10 ** 60, 10 ** 5000, -10 ** 5000]


def random_webs(count, seed):
    """Webs of many sizes, with loops, parallel edges and several components."""
    source = random.Random(seed)
    webs = []
    for at in range(count):
        size = source.randint(1, 30 if at % 5 == 0 else 8)
        edges = [
            (source.randrange(size), source.randrange(size))
            for number in range(source.randint(0, min(60, 2 * size)))
        ]
        webs.append(Web(size, edges, modulus=source.choice([0, 2, 3, 5, 12, 59, 60])))
    return webs


def random_walk(source, web):
    """A walk of the web, None if it has no edges."""
    if len(web) == 0:
        return None
    node = source.choice(web.edge(source.randrange(len(web))))
    walk = []
    for at in range(source.randint(1, 12)):
        steps = [(number, 1) for number in range(len(web)) if web.edge(number)[0] == node]
        steps += [(number, -1) for number in range(len(web)) if web.edge(number)[1] == node]
        number, way = source.choice(steps)
        walk.append((number, way))
        node = web.edge(number)[1 if way == 1 else 0]
    return walk


def check_raises(case, error, value, action):
    """Check that the action raises exactly this error with the very value."""
    with case.assertRaises(error) as caught:
        action()
    case.assertIs(error, type(caught.exception))
    case.assertIs(value, caught.exception.value)


def check_raises_count(case, error, count, action):
    """Check that the action raises exactly this error with an equal number."""
    with case.assertRaises(error) as caught:
        action()
    case.assertIs(error, type(caught.exception))
    case.assertEqual(count, caught.exception.value)
