"""Invariants: the snapshots that right events lead to, and histories that follow paths of such events."""

from shelfroutes.base.names import ascends, is_many, is_tuple
from shelfroutes.check.cases import Case, case_behind
from shelfroutes.check.frames import frame_of
from shelfroutes.check.histories import MAX_EVENTS, first_wrong
from shelfroutes.check.walks import Walk
from shelfroutes.errors import InvalidEvent, InvalidNumber, InvalidSnapshot, TooMany

MAX_SNAPSHOTS = 20000


class Reach:
    """The snapshots of a scheme that are reached; it never changes."""

    def __init__(self, scheme):
        self._frame = frame_of(scheme)
        search = ReachSearch(self._frame)
        # For each snapshot the one before it and the event between them, on a way with as few events as possible.
        self._ways = search.ways
        self._layers = [tuple(sorted(layer)) for layer in search.layers]
        self._in_order = tuple(sorted(list(search.ways)))
        self._wrong_pairs = tuple(sorted(search.wrong_pairs))
        # Wrong events were found at the nearest snapshots first.
        self._nearest = search.wrong_pairs[0] if search.wrong_pairs != [] else None

    @property
    def snapshots(self):
        """The ascending tuple of the reached snapshots."""
        return self._in_order

    @property
    def wrong(self):
        """The ascending tuple of the pairs of a reached snapshot and an event that is wrong there."""
        return self._wrong_pairs

    @property
    def invariant(self):
        """The invariant of just these snapshots, or None."""
        return ("invariant", self._in_order) if self._nearest is None else None

    def __len__(self):
        return len(self._in_order)

    def __contains__(self, x):
        # Only what has the form of a snapshot is looked up: other values can equal one, or be no keys.
        return self._frame.is_of_form(x) and x in self._ways

    def __getitem__(self, at):
        if at not in self:
            raise InvalidSnapshot("not reached")
        path = []
        snapshot = at
        while self._ways[snapshot] is not None:
            snapshot, event = self._ways[snapshot]
            path.append(event)
        return tuple(path[::-1])

    def __iter__(self):
        raise TypeError("a reach is not iterated over")

    def layer(self, distance):
        """The ascending tuple of the snapshots to which paths of so many events lead, and no shorter ones."""
        if not is_many(distance):
            raise InvalidNumber(distance)
        return self._layers[distance] if distance < len(self._layers) else ()

    def shortest(self):
        """A path with as few events as possible whose last event is wrong, or None."""
        if self._nearest is None:
            return None
        snapshot, event = self._nearest
        return self[snapshot] + (event,)


class ReachSearch:
    """A search for all snapshots that right events lead to, one event further at a time."""

    def __init__(self, frame):
        self._frame = frame
        first = frame.beginning()
        self.ways = {first: None}
        self.layers = []
        self.wrong_pairs = []
        layer = [first]
        while layer != []:
            self.layers.append(layer)
            further = []
            for snapshot in layer:
                further.extend(self._new_ones_behind(snapshot))
            layer = further

    def _new_ones_behind(self, snapshot):
        """The snapshots that right events lead to from this one, as far as they were not reached before."""
        found = []
        due = Case(self._frame, snapshot).due()
        for event in self._frame.possible_events(snapshot):
            case = case_behind(self._frame, snapshot, event)
            if not case.is_right_behind(due):
                self.wrong_pairs.append((snapshot, event))
                continue
            behind = case.told()
            if behind not in self.ways:
                self.ways[behind] = (snapshot, event)
                found.append(behind)
                if len(self.ways) > MAX_SNAPSHOTS:
                    raise TooMany(MAX_SNAPSHOTS)
        return found


def is_invariant(scheme, value):
    """Whether the value is an invariant of the scheme."""
    frame = frame_of(scheme)
    if not is_tuple(value, 2, 2) or value[0] != "invariant" or not isinstance(value[1], tuple):
        return False
    snapshots = value[1]
    if not all([frame.is_of_form(snapshot) for snapshot in snapshots]) or not ascends(snapshots):
        return False
    members = {snapshot: True for snapshot in snapshots}
    if frame.beginning() not in members:
        return False
    for snapshot in snapshots:
        if not _stays_within(frame, members, snapshot):
            return False
    return True


def history_of(scheme, path):
    """A history of as many events that follows a path of snapshot events."""
    frame = frame_of(scheme)
    if not is_tuple(path, 0, MAX_EVENTS):
        raise InvalidEvent("not a path of at most 400 events")
    walk = Walk(frame)
    events = []
    for event in path:
        if not walk.can_go(event):
            raise InvalidEvent("not possible at its snapshot")
        events.append(walk.go(event))
    return tuple(events)


def counterexample_of(scheme):
    """A counterexample with at most as many events as a shortest path to a wrong event, or None."""
    return counterexample_from(scheme, Reach(scheme))


def counterexample_from(scheme, reach):
    """A counterexample of a scheme whose reached snapshots are known, or None."""
    path = reach.shortest()
    if path is None:
        return None
    events = history_of(scheme, path)
    # A row that was meant for one role can be wrong in other roles of its table before the path ends.
    return "counterexample", events[:first_wrong(scheme, events) + 1]


def _stays_within(frame, members, snapshot):
    """Whether each event that is possible at a snapshot is right and leads to one of the members."""
    due = Case(frame, snapshot).due()
    for event in frame.possible_events(snapshot):
        case = case_behind(frame, snapshot, event)
        if not case.is_right_behind(due) or case.told() not in members:
            return False
    return True
