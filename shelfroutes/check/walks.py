"""Paths of snapshot events, followed by the events of a history."""

from shelfroutes.check.cases import case_behind
from shelfroutes.check.frames import is_worth_listing


class Walk:
    """A snapshot on a path, with the keys that rows have in a history that follows the path.

    All rows of a role are equal, and integers differ where no tests make them equal: so a row fits the others in
    the one role for which it arrives.
    """

    def __init__(self, frame):
        self._frame = frame
        self._place = frame.beginning()
        self._samples = frame.asked.sample(1)
        self._last_key = 0
        self._core_keys = {}
        # The keys of the listed rows of each side role, in the order in which the snapshot lists them.
        self._side_keys = {side: [] for side in frame.side_roles}

    def can_go(self, event):
        """Whether the event is possible at this snapshot."""
        return self._frame.is_possible(self._place, event)

    def go(self, event):
        """Go on by a possible event; the event of the history is returned."""
        told = self._told_event(event)
        case = case_behind(self._frame, self._place, event)
        for side in self._frame.side_roles:
            keys = list(self._side_keys[side])
            if event == ("add", side):
                keys.append(self._last_key)
            triples = [row.triple() for row in case.listed[side]]
            # Rows that are listed alike stand in the order of their keys: any order will do.
            pairs = sorted(list(zip(triples, keys)))
            self._side_keys[side] = [key for triple, key in pairs if is_worth_listing(triple)]
        self._place = case.told()
        return told

    def _told_event(self, event):
        word, name = event[0], event[1]
        if word == "add":
            self._last_key = self._last_key + 1
            if name in self._frame.core_roles:
                self._core_keys[name] = self._last_key
            return word, self._frame.asked.table_of(name), self._samples[name][0]
        if word == "remove":
            return word, self._leaving_key(event)
        if word == "switch":
            return event
        return word, name, self._key_in(name)

    def _leaving_key(self, event):
        role = event[1]
        if role in self._core_keys:
            return self._core_keys[role]
        rows = self._place[4][self._frame.side_roles.index(role)][1]
        return self._side_keys[role][rows.index(event[2])]

    def _key_in(self, name):
        """The key of the full match in a lazy store."""
        _, _, role, column, _, _ = self._frame.entries[name]
        return self._samples[role][0][self._frame.asked.columns_of(role).index(column)]
