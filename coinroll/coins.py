"""Amounts of the smallest coin: their shares, how these are rounded, and how an amount is split."""

from coinroll.errors import BadAmount, BadShare

WAYS = ("down", "up", "near", "even")
WHOLE = 10000
HALF = 5000
MOST_PARTS = 20000
MOST_WEIGHTS = 50
GREATEST_WEIGHT = 1000000000


# Python counts True and False among its whole numbers; the program doesn't.
def is_number(thing):
    return isinstance(thing, int) and not isinstance(thing, bool)


def is_number_within(thing, least, most):
    return is_number(thing) and least <= thing and thing <= most


def is_parts(thing):
    return is_number_within(thing, 0, MOST_PARTS)


# What is no text is never compared: its own way of being equal may say or do anything.
def is_way(thing):
    return isinstance(thing, str) and thing in WAYS


def is_weights(thing):
    if not isinstance(thing, list) or len(thing) > MOST_WEIGHTS:
        return False
    if not all([is_number_within(weight, 0, GREATEST_WEIGHT) for weight in thing]):
        return False
    # No weights at all sum to nought too, so this also refuses the empty list.
    return sum(thing) > 0


# The words of a refusal never show what was handed in: a very great number can't be written out.
def need_amount(thing):
    if not is_number(thing):
        raise BadAmount("an amount is a whole number")


def need_way(thing):
    if not is_way(thing):
        raise BadShare("a way is one of down, up, near, even")


# A half below nought lies between a lesser number, farther from nought, and a greater one, nearer to it.
def half_goes_up(number, lesser, way):
    if way == "near":
        return number > 0
    return lesser % 2 == 1


def goes_up(number, lesser, rest, way):
    if way == "down":
        return False
    if way == "up":
        return rest > 0
    if rest == HALF:
        return half_goes_up(number, lesser, way)
    return rest > HALF


def rounded(number, way):
    need_amount(number)
    need_way(way)
    lesser = number // WHOLE
    rest = number % WHOLE
    if goes_up(number, lesser, rest, way):
        return lesser + 1
    return lesser


def share_of(amount, parts, way):
    need_amount(amount)
    if not is_parts(parts):
        raise BadShare("parts are a whole number from 0 to 20000")
    return rounded(amount * parts, way)


def split(amount, weights):
    need_amount(amount)
    if not is_weights(weights):
        raise BadShare("weights are a list of 1 to 50 numbers from 0 to 10 ** 9, not all nought")
    total = sum(weights)
    shares = [(amount * weight) // total for weight in weights]
    rests = [(amount * weight) % total for weight in weights]
    left = amount - sum(shares)
    # Sorting leaves like rests in their order, so that the first ones of these come first.
    order = sorted(range(len(rests)), key=lambda place: -rests[place])
    for place in order[:left]:
        shares[place] = shares[place] + 1
    return shares
