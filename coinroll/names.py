"""What is a name, what is a mark, and whether names or numbers rise."""

LETTERS = "abcdefghijklmnopqrstuvwxyz"
FIGURES = "0123456789"
MOST_SIGNS = 8


# The signs are written out, as islower and isdigit also take signs of other alphabets.
def is_word_of(thing, signs):
    if not isinstance(thing, str):
        return False
    if len(thing) < 1 or len(thing) > MOST_SIGNS:
        return False
    return all([sign in signs for sign in thing])


def is_name(thing):
    return is_word_of(thing, LETTERS)


def is_mark(thing):
    return is_word_of(thing, LETTERS + FIGURES)


def rise(things):
    return all([thing < after for thing, after in zip(things, things[1:])])
