"""Joins with what stores show."""

from shelfroutes.query.links import Partners, put_in_order
from shelfroutes.run.states import check_matches


class Look:
    """What a store shows, ready to be joined with matches of certain roles."""

    def __init__(self, state, roles, name):
        entry = state.entries[name]
        self.joined_roles = tuple(sorted(roles + entry[1]))
        self._state = state
        self._numbers = state.numbers[name]
        self._order = put_in_order(roles, entry[1])
        self._partners = Partners(state.asked, state.placed, roles, entry[1], self._numbers)
        self._sources = None
        if entry[0] == "lazy":
            self._sources = BothLooks(state, roles, entry[4], entry[5])
            self._open_keys = state.open_keys[name]
            self._key_place = state.key_place(self.joined_roles, name)

    def joins_of(self, match):
        """Yield the matches that a match is joined to, with their numbers."""
        for other in self._partners.of_match(match):
            mixed = match + other
            yield tuple([mixed[at] for at in self._order]), self._numbers[other]
        if self._sources is not None:
            for longer, number in self._sources.joins_of_both(match):
                if self._state.key_at(self._key_place, longer) not in self._open_keys:
                    yield longer, number


class BothLooks:
    """What two stores show, ready to be joined with one another and with matches of certain roles."""

    def __init__(self, state, roles, one, other):
        # First the store that has tests with the roles, if only one has: less is put together in vain.
        near, far = one, other
        if _are_apart(state, roles, one) and not _are_apart(state, roles, other):
            near, far = other, one
        self._near = Look(state, roles, near)
        self._far = Look(state, self._near.joined_roles, far)

    def joins_of_both(self, match):
        """Yield the matches that a match is joined to, with their numbers."""
        for longer, number in self._near.joins_of(match):
            for longest, times in self._far.joins_of(longer):
                yield longest, number * times


def joined(state, roles, found, name):
    """The matches of some roles joined with what a store shows: a dict of their numbers."""
    look = Look(state, roles, name)
    numbers = {}
    for match in found:
        for longer, number in look.joins_of(match):
            numbers[longer] = numbers.get(longer, 0) + found[match] * number
            check_matches(numbers)
    return numbers


def joined_sources(state, one, other):
    """The join of what two stores show."""
    both = BothLooks(state, (), one, other)
    numbers = {}
    for match, number in both.joins_of_both(()):
        numbers[match] = numbers.get(match, 0) + number
        check_matches(numbers)
    return numbers


def joined_at_key(state, name, key):
    """The join of what the sources of a lazy store show, for one key."""
    entry = state.entries[name]
    both = BothLooks(state, (), entry[4], entry[5])
    numbers = {}
    place = state.key_place(entry[1], name)
    for match, number in both.joins_of_both(()):
        if state.key_at(place, match) == key:
            numbers[match] = numbers.get(match, 0) + number
            check_matches(numbers)
    return numbers


def _are_apart(state, roles, name):
    """Whether there is no test between some roles and those of a store."""
    pairs = [state.asked.pairs(role, other) for role in roles for other in state.entries[name][1]]
    return all([pair == () for pair in pairs])
