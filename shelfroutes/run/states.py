"""What an engine holds at one moment."""

from shelfroutes.errors import TooMany
from shelfroutes.plan.stores import is_store

MAX_MATCHES = 2000


class State:
    """What an engine holds at one moment.

    An event works on a copy. No dict in it is changed once it stands there: it is replaced, so that copies can
    share what they have in common.
    """

    def __init__(self, query, entries, at_plan):
        self.asked = query
        self.entries = entries
        self.at_plan = at_plan
        # All rows that ever arrived as pairs (table, row), and the keys of those that are there.
        self.placed = {}
        self.present = {}
        # The matches of each store with their numbers, and the loaded keys of each lazy store.
        self.numbers = {name: {} for name in entries if is_store(entries[name])}
        self.open_keys = {name: {} for name in entries if entries[name][0] == "lazy"}
        # The ascending tuples of the keys that each counter counts at matches of the ties, or True for a flag.
        self.counts = {name: {} for name in entries if not is_store(entries[name])}
        # The numbers of the results in the output, and the moves of the last event.
        self.emitted = {}
        self.last_moves = ()

    def copied(self):
        """A copy to work on."""
        made = State(self.asked, self.entries, self.at_plan)
        made.placed = self.placed
        made.present = self.present
        made.numbers = {name: self.numbers[name] for name in self.numbers}
        made.open_keys = {name: self.open_keys[name] for name in self.open_keys}
        made.counts = {name: self.counts[name] for name in self.counts}
        made.emitted = self.emitted
        return made

    def is_like(self, other):
        """Whether another state has the same plan, equal rows and output, and holds the same."""
        return (self.at_plan == other.at_plan and self.placed == other.placed and self.present == other.present
                and self.numbers == other.numbers and self.open_keys == other.open_keys
                and self.counts == other.counts and self.emitted == other.emitted)

    def key_place(self, roles, name):
        """Where matches of these roles have the key of a lazy store: the index of a row, and of an integer in it."""
        _, _, role, column, _, _ = self.entries[name]
        return roles.index(role), self.asked.columns_of(role).index(column)

    def key_at(self, place, match):
        """The integer at such a place of a match."""
        return self.placed[match[place[0]]][1][place[1]]


def check_matches(found):
    """Raise an error if there are too many different matches."""
    if len(found) > MAX_MATCHES:
        raise TooMany(MAX_MATCHES)
