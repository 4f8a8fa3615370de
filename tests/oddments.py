"""Things to hand in where the interface says "of anything"."""


class Unfriendly:
    """Raises at whatever is done with it but asking for its class."""

    def refuse(self, *others):
        raise RuntimeError("touched")

    __eq__ = __ne__ = __lt__ = __le__ = __gt__ = __ge__ = refuse
    __hash__ = __len__ = __iter__ = __bool__ = __getitem__ = __contains__ = refuse
    __str__ = __repr__ = __int__ = __index__ = __add__ = __sub__ = refuse


def nested():
    thing = []
    for _ in range(10):
        thing = [thing]
    return thing


def no_numbers():
    """Things that are neither whole numbers nor texts nor tuples."""
    return [
        None, True, False, 0.0, 1.0, 4.5, float("nan"), float("inf"), 2j, b"", b"1", b"c4", bytearray(b"1"),
        [], [1], [0, 0, 4], ["c", "4"], {}, {1: 2}, set(), {1, 2}, frozenset(), range(3), iter([1]), object(),
        object, int, str, len, lambda: 1, ValueError("1"), Ellipsis, NotImplemented, Unfriendly(), nested(),
    ]


def no_texts():
    return no_numbers() + [
        0, 1, -1, 4, 9999, 10 ** 50, (), (1,), (0, 0, 4), (True, 0, 4), (Unfriendly(), 0, 4), ("c", "", "4"),
    ]
