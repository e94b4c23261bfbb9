"""Values of many kinds, for what takes any value."""


class Agreeable:
    """Says that it equals everything, and cannot be the key of a dict."""

    def __eq__(self, other):
        return True

    __hash__ = None


class Hostile:
    """Cannot be compared, measured, iterated over, hashed or shown."""

    def _refuse(self, *rest):
        raise AssertionError("a strange value was asked something")

    __eq__ = __ne__ = __lt__ = __le__ = __gt__ = __ge__ = _refuse
    __len__ = __iter__ = __bool__ = __hash__ = __repr__ = __str__ = _refuse


def own_list():
    """Return a list that holds itself."""
    rows = []
    rows.append(rows)
    return rows


def deep_tuple(depth):
    """Return a tuple within tuples."""
    thing = ()
    for _ in range(depth):
        thing = (thing,)
    return thing


def strange_values():
    """Return values that are neither texts, stamps, entries nor lists of entries."""
    return [
        None, True, False, 0, 1, -1, 7, 10 ** 15, 10 ** 5000, 1.0, 1.5, float("nan"), 1j,
        b"", b"k", bytearray(b"k"), ("k",), ("k", "k"), ("k", "k", "k"), (1,), (1, 2), (1, 2, 3),
        [1], ["k"], [None], [[]], {"k": 1}, {1: "k"}, {"k"}, frozenset(["k"]), range(3), object(),
        str, int, len, Ellipsis, NotImplemented, iter(["k"]), (sign for sign in "k"), lambda: "k",
        Agreeable(), Hostile(), (Agreeable(), Agreeable()), (Hostile(), Hostile(), Hostile()),
        ("k", Hostile(), None), [Hostile()], (None,), (None, None), (None, None, None), own_list(),
        deep_tuple(500), ([], [], []), ({}, {}), ((), (), ()), (((),),),
    ]
