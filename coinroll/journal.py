"""What was told of wages and extras, and when it was told."""

from coinroll.coins import is_number, is_number_within
from coinroll.errors import BadDay, BadEntry, NoMark, NoPerson, TooMany
from coinroll.months import LAST_MONTH, YEAR_MONTHS, need_month
from coinroll.names import is_mark, is_name

MOST_RANK = 99
MOST_AMOUNT = 10000000000
MOST_MARKS = 90
NO_WAGE = (0, 0, "", 0)


def need_day(thing):
    if not is_number(thing) or thing < 0:
        raise BadDay("a day is a whole number from 0 on")


# What is no text is never compared: its own way of being equal may say or do anything.
def begins_with(thing, word, length):
    if not isinstance(thing, tuple) or len(thing) != length:
        return False
    return isinstance(thing[0], str) and thing[0] == word


def has_person_month_amount(entry):
    if not is_name(entry[1]) or not is_number_within(entry[2], 0, LAST_MONTH):
        return False
    return is_number_within(entry[-1], 0, MOST_AMOUNT)


def is_entry(thing):
    if begins_with(thing, "wage", 5):
        return has_person_month_amount(thing) and is_number_within(thing[3], 0, MOST_RANK)
    return begins_with(thing, "extra", 4) and has_person_month_amount(thing)


def need_mark_and_thing(mark, thing):
    if not is_mark(mark):
        raise BadEntry("a mark is 1 to 8 small letters or figures")
    if thing is not None and not is_entry(thing):
        raise BadEntry("that is neither an entry nor None")


# Things are pairs of a day and what was told on it, days rising, so the last one that isn't too late is known.
def known_of(things, day):
    for thing in reversed(things):
        if thing[0] <= day:
            return thing[1]
    return None


# Pairs, here and below, are those of a mark and its entry, all of one person.
def wage_of(pairs, month):
    wages = [(entry[2], entry[3], mark, entry[4]) for mark, entry in pairs if entry[0] == "wage"]
    begun = [wage for wage in wages if wage[0] <= month]
    return max(begun, default=NO_WAGE)[3]


def extras_of(pairs, month):
    return sum([entry[3] for mark, entry in pairs if entry[0] == "extra" and entry[2] == month])


def base_of(pairs, month):
    return wage_of(pairs, month) + extras_of(pairs, month)


def bases_of(pairs, month):
    january = month - month % YEAR_MONTHS
    return [base_of(pairs, other) for other in range(january, month + 1)]


def first_month_of(pairs):
    return min([entry[2] for mark, entry in pairs])


class Journal:
    def __init__(self):
        self.told = {}
        self.last_day = 0

    def put(self, day, mark, entry):
        need_day(day)
        if day < self.last_day:
            raise BadDay("something was told on a later day")
        need_mark_and_thing(mark, entry)
        if mark not in self.told and len(self.told) >= MOST_MARKS:
            raise TooMany("ninety other marks were told")
        if entry is None and known_of(self.told.get(mark, []), day) is None:
            raise NoMark("that mark is out, or was never told")
        if mark not in self.told:
            self.told[mark] = []
        self.told[mark].append((day, entry))
        self.last_day = day

    def known(self, day):
        need_day(day)
        pairs = [(mark, known_of(self.told[mark], day)) for mark in sorted(self.told)]
        return [pair for pair in pairs if pair[1] is not None]

    def people(self, day):
        return sorted(set([entry[1] for mark, entry in self.known(day)]))

    def of_person(self, person, day):
        pairs = self.known(day)
        if not is_name(person):
            raise NoPerson("a person is called by a name")
        own = [(mark, entry) for mark, entry in pairs if entry[1] == person]
        if len(own) == 0:
            raise NoPerson("nothing is known of that person")
        return own

    def base(self, person, month, day):
        pairs = self.of_person(person, day)
        need_month(month)
        return base_of(pairs, month)

    def bases(self, person, month, day):
        pairs = self.of_person(person, day)
        need_month(month)
        return bases_of(pairs, month)
