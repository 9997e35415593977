"""Invariants: the snapshots that right events lead to, and histories that follow paths of such events."""

from shelfroutes.base.names import ascends, is_many, is_tuple
from shelfroutes.check.frames import frame_of
from shelfroutes.check.histories import MAX_EVENTS, first_wrong
from shelfroutes.check.outcomes import Outcomes
from shelfroutes.check.walks import Walk
from shelfroutes.errors import InvalidEvent, InvalidNumber, InvalidSnapshot, TooMany

MAX_SNAPSHOTS = 20000


class Reach:
    """The snapshots of a scheme that are reached; it never changes."""

    def __init__(self, scheme):
        self._frame = frame_of(scheme)
        self._search = ReachSearch(self._frame.beginning(), Outcomes(self._frame))
        self._layers = [tuple(sorted(layer)) for layer in self._search.layers]
        self._in_order = tuple(sorted(list(self._search.ways)))
        self._wrong_pairs = tuple(sorted(self._search.wrong_pairs))

    @property
    def snapshots(self):
        """The ascending tuple of the reached snapshots."""
        return self._in_order

    @property
    def wrong(self):
        """The ascending tuple of the pairs of a reached snapshot and an event that is wrong there."""
        return self._wrong_pairs

    @property
    def invariant(self):
        """The invariant of just these snapshots, or None."""
        return ("invariant", self._in_order) if self._wrong_pairs == () else None

    def __len__(self):
        return len(self._in_order)

    def __contains__(self, x):
        # Only what has the form of a snapshot is looked up: other values can equal one, or be no keys.
        return self._frame.is_of_form(x) and x in self._search.ways

    def __getitem__(self, at):
        if at not in self:
            raise InvalidSnapshot("not reached")
        return self._search.path_to(at)

    def __iter__(self):
        raise TypeError("a reach is not iterated over")

    def layer(self, distance):
        """The ascending tuple of the snapshots to which paths of so many events lead, and no shorter ones."""
        if not is_many(distance):
            raise InvalidNumber(distance)
        return self._layers[distance] if distance < len(self._layers) else ()

    def shortest(self):
        """A path with as few events as possible whose last event is wrong, or None."""
        return self._search.shortest_path()


class ReachSearch:
    """A search for all snapshots that right events lead to, one event further at a time."""

    def __init__(self, first, outcomes):
        self._outcomes = outcomes
        # For each snapshot the one before it and the event between them, on a way with as few events as possible.
        self.ways = {first: None}
        self.layers = []
        # Pairs at snapshots that are nearer stand ahead of others.
        self.wrong_pairs = []
        layer = [first]
        while layer != []:
            self.layers.append(layer)
            further = []
            for snapshot in layer:
                further.extend(self._new_ones_behind(snapshot))
            layer = further

    def _new_ones_behind(self, snapshot):
        """The snapshots that right events lead to from this one, as far as they were not reached before."""
        found = []
        for event, is_right, behind in self._outcomes.outcomes_at(snapshot):
            if not is_right:
                self.wrong_pairs.append((snapshot, event))
            elif behind not in self.ways:
                self.ways[behind] = (snapshot, event)
                found.append(behind)
                if len(self.ways) > MAX_SNAPSHOTS:
                    raise TooMany(MAX_SNAPSHOTS)
        return found

    def path_to(self, snapshot):
        """A path with as few events as possible that leads to a reached snapshot."""
        path = []
        place = snapshot
        while self.ways[place] is not None:
            place, event = self.ways[place]
            path.append(event)
        return tuple(path[::-1])

    def shortest_path(self):
        """A path with as few events as possible whose last event is wrong, or None."""
        if self.wrong_pairs == []:
            return None
        snapshot, event = self.wrong_pairs[0]
        return self.path_to(snapshot) + (event,)


def is_invariant(scheme, value):
    """Whether the value is an invariant of the scheme."""
    frame = frame_of(scheme)
    if not is_tuple(value, 2, 2) or value[0] != "invariant" or not isinstance(value[1], tuple):
        return False
    snapshots = value[1]
    if not all([frame.is_of_form(snapshot) for snapshot in snapshots]) or not ascends(snapshots):
        return False
    members = {snapshot: True for snapshot in snapshots}
    if frame.beginning() not in members:
        return False
    for snapshot in snapshots:
        if not _stays_within(frame, members, snapshot):
            return False
    return True


def history_of(scheme, path):
    """A history of as many events that follows a path of snapshot events."""
    frame = frame_of(scheme)
    if not is_tuple(path, 0, MAX_EVENTS):
        raise InvalidEvent("not a path of at most 400 events")
    walk = Walk(frame)
    events = []
    for event in path:
        if not walk.can_go(event):
            raise InvalidEvent("not possible at its snapshot")
        events.append(walk.go(event))
    return tuple(events)


def counterexample_of(scheme):
    """A counterexample with at most as many events as a shortest path to a wrong event, or None."""
    return counterexample_by(scheme, Reach(scheme).shortest())


def counterexample_by(scheme, path):
    """A counterexample of a scheme that follows a path whose last event alone is wrong, or None for no path."""
    if path is None:
        return None
    events = history_of(scheme, path)
    # A row that was meant for one role can be wrong in other roles of its table before the path ends.
    return "counterexample", events[:first_wrong(scheme, events) + 1]


def _stays_within(frame, members, snapshot):
    """Whether each event that is possible at a snapshot is right and leads to one of the members."""
    outcomes = Outcomes(frame).outcomes_at(snapshot)
    return all([is_right and behind in members for _, is_right, behind in outcomes])
