"""What snapshots of a scheme have, and which values have their form."""

from shelfroutes.base.names import is_integer, is_same, is_tuple
from shelfroutes.plan.schemes import check_scheme
from shelfroutes.plan.stores import is_core_store, is_store

STATES = ("gone", "in", "out")
MAX_COPIES = 2
MAX_LISTED = 2


class Frame:
    """What snapshots of a scheme tell about, in its order."""

    def __init__(self, scheme):
        query, entries = scheme.query, scheme.stores
        self.obeyed = scheme
        self.asked = query
        self.entries = entries
        self.core_roles = query.core
        self.side_roles = query.sides
        self.core_stores = tuple([name for name in entries if is_core_store(query, entries[name])])
        self.lazy_stores = tuple([name for name in entries if entries[name][0] == "lazy"])
        self.optional_role = query.optional
        # The sort of each side role, its ties, its stores, and its counter or flag.
        self.sorts = {side: query.sort_of(side) for side in query.sides}
        self.ties_of = {side: query.ties(side) for side in query.sides}
        self.stores_of = {side: tuple([name for name in entries if entries[name] == ("plain", (side,))])
                          for side in query.sides}
        self.counter_of = {entries[name][1]: name for name in entries if not is_store(entries[name])}
        self._plans = scheme.plans

    def has_flag(self, side):
        """Whether a side role has a flag, not a counter."""
        return self.entries[self.counter_of[side]][0] == "flag"

    def routes(self, plan, word, role):
        """The pipelines of a pair in a plan."""
        return self._plans[plan][word, role]

    def beginning(self):
        """The snapshot of the empty engine with the first plan."""
        listings = tuple([(False if self.has_flag(side) else None, ()) for side in self.side_roles])
        return (self.obeyed.first, ("out",) * len(self.core_roles), (0,) * len(self.core_stores),
                (False,) * len(self.lazy_stores), listings)

    def is_of_form(self, value):
        """Whether the value has the form of a snapshot."""
        if not is_tuple(value, 5, 5):
            return False
        plan, states, copies, loaded, sides = value
        if plan not in self.obeyed or not is_tuple(states, len(self.core_roles), len(self.core_roles)):
            return False
        if not all([state in STATES for state in states]) or not _are_copies(copies, len(self.core_stores)):
            return False
        if not is_tuple(loaded, len(self.lazy_stores), len(self.lazy_stores)):
            return False
        if not all([isinstance(is_loaded, bool) for is_loaded in loaded]):
            return False
        many = len(self.side_roles)
        return is_tuple(sides, many, many) and all([self._is_side(side, pair)
                                                    for side, pair in zip(self.side_roles, sides)])

    def _is_side(self, side, value):
        """Whether the value tells what a flag remembers, if there is one, and the listed rows of a side role."""
        if not is_tuple(value, 2, 2):
            return False
        flag, rows = value
        if not (isinstance(flag, bool) if self.has_flag(side) else flag is None):
            return False
        if not is_tuple(rows, 0, MAX_LISTED) or not all([self._is_listed(side, row) for row in rows]):
            return False
        return rows == tuple(sorted(rows))

    def _is_listed(self, side, value):
        if not is_tuple(value, 3, 3):
            return False
        is_in, held, is_counted = value
        if not isinstance(is_in, bool) or not isinstance(is_counted, bool):
            return False
        if not _are_copies(held, len(self.stores_of[side])) or (is_counted and self.has_flag(side)):
            return False
        return is_worth_listing(value)

    def possible_events(self, snapshot):
        """The ascending tuple of the events that are possible at a snapshot."""
        plan, states, _, are_open, listings = snapshot
        events = [("add", role) for role, state in zip(self.core_roles, states) if state == "out"]
        events.extend([("remove", role) for role, state in zip(self.core_roles, states)
                       if state == "in" and not self._is_lasting(role)])
        for side, (_, rows) in zip(self.side_roles, listings):
            if len(rows) < MAX_LISTED:
                events.append(("add", side))
            if not self._is_lasting(side):
                # Of equal rows just one can be meant.
                events.extend([("remove", side, row) for row in sorted(set(rows)) if row[0]])
        events.extend([("switch", other) for name, other in self.obeyed.transitions if name == plan])
        events.extend([("evict" if is_open else "load", name) for name, is_open in zip(self.lazy_stores, are_open)])
        return tuple(sorted(events))

    def is_possible(self, snapshot, value):
        """Whether the value is one of the events that are possible at a snapshot."""
        return any([is_same(value, possible) for possible in self.possible_events(snapshot)])

    def _is_lasting(self, role):
        return self.asked.table_of(role) in self.obeyed.lasting


def frame_of(scheme):
    """The frame of a value that has to be a scheme."""
    check_scheme(scheme)
    return Frame(scheme)


def is_worth_listing(row):
    """Whether a row of a side role is there, held or counted."""
    is_in, held, is_counted = row
    return is_in or is_counted or any([many > 0 for many in held])


def _are_copies(value, many):
    return is_tuple(value, many, many) and all([is_integer(copies) and 0 <= copies <= MAX_COPIES for copies in value])
