"""Things of every kind, to be handed in where the program refuses them."""

from decimal import Decimal
from fractions import Fraction


class LikeAll:
    """Says that it is equal to everything."""

    def __eq__(self, other):
        return True

    def __hash__(self):
        return hash("down")


class LikeNone:
    """Can't be compared, hashed, shown or counted."""

    def __eq__(self, other):
        raise RuntimeError("compared")

    def __hash__(self):
        raise RuntimeError("hashed")

    def __repr__(self):
        raise RuntimeError("shown")

    def __len__(self):
        raise RuntimeError("counted")


class LikeNumber:
    """Can be made a number of, but is none."""

    def __int__(self):
        return 1

    def __index__(self):
        return 1


def endless():
    """A list that holds itself."""
    thing = []
    thing.append(thing)
    return thing


def no_numbers():
    return [
        None, True, False, 0.0, 1.0, 1.5, float("nan"), float("inf"), 1j,
        Decimal(1), Fraction(1), "", "1", "12", "down", b"1", bytearray(b"1"),
        [], [1], [None], (), (1,), {}, {1: 2}, set(), {1}, frozenset(), range(3),
        int, str, len, object(), iter([1]), (n for n in [1]),
        LikeAll(), LikeNone(), LikeNumber(), endless(), ...,
    ]


def no_texts():
    return [thing for thing in no_numbers() if not isinstance(thing, str)] + [0, 1, -1, 10 ** 1000]


def no_ways():
    return no_texts() + [
        "", " ", "Down", "DOWN", "down ", " down", "down\n", "dow", "downup", "nearest", "half",
        "o", "0", "u", "down,up", ["down"], ("down",), {"down": "down"}, {"down"}, b"down",
    ]


def no_parts():
    return no_numbers() + [-1, 20001, -20000, 20002, 10 ** 1000, -10 ** 1000]


def no_months():
    return no_numbers() + ["2031-04", -1, 120000, -120000, 120001, 10 ** 1000, -10 ** 1000]


def no_years():
    return no_numbers() + ["2031", -1, 10000, -9999, 10001, 10 ** 1000, -10 ** 1000]


def no_rule_amounts():
    return no_numbers() + [-1, 10 ** 12 + 1, -10 ** 12, 10 ** 1000, -10 ** 1000]


def no_names():
    return no_texts() + [
        "", "abcdefghi", "a" * 1000, "A", "Tax", "taX", "a1", "1", "0", " ", "a b", " a", "a ", "a\n", "\n", "a-b", "a_b",
        ["a"], ("a",), {"a": "a"}, {"a"}, b"a",
    ]


def no_rule_names():
    return no_names() + ["base", "net", "month", "sums"]


def no_days():
    return no_numbers() + [-1, -2, -10 ** 1000]


def no_marks():
    return no_texts() + [
        "", "123456789", "abcdefghi", "a" * 1000, "A", "A1", "a1B", " ", "a 1", " a", "a ", "a\n", "a-1", "a_1", "-",
        ["a"], ("a",), {"a": "a"}, {"a"}, b"a",
    ]
