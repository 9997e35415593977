"""What events do at snapshots: triples of an event, whether it is right, and the snapshot behind it."""

from shelfroutes.check.cases import Case, case_behind

_MAX_KEPT = 20000


class Outcomes:
    """What the possible events do at the snapshots of a scheme."""

    def __init__(self, frame):
        self.frame = frame

    def outcomes_at(self, snapshot):
        """A list of the outcomes of the possible events at a snapshot, ascending."""
        due = Case(self.frame, snapshot).due()
        return [_outcome(self.frame, snapshot, due, event) for event in self.frame.possible_events(snapshot)]


class KeptOutcomes:
    """The same, found out only once for each snapshot, unless there are too many of them to be kept."""

    def __init__(self, frame):
        self._fresh = Outcomes(frame)
        self._known = {}

    def outcomes_at(self, snapshot):
        """A list of the outcomes of the possible events at a snapshot, ascending."""
        if snapshot in self._known:
            return self._known[snapshot]
        found = self._fresh.outcomes_at(snapshot)
        if len(self._known) < _MAX_KEPT:
            self._known[snapshot] = found
        return found


class ChangedOutcomes:
    """The same for a scheme that differs from another one in one pair of a plan, or in one transition.

    A pair of a plan is told as ("plan", name, word, role), a transition as ("switch", name, other).
    """

    def __init__(self, frame, others, change):
        self._frame = frame
        self._others = others
        self._changed_plan = change[1]
        self._changed_start = change[2:] if change[0] == "plan" else ("switch", change[2])

    def outcomes_at(self, snapshot):
        """A list of the outcomes of the possible events at a snapshot, ascending."""
        found = self._others.outcomes_at(snapshot)
        # All other events do what they do in the other scheme.
        if snapshot[0] != self._changed_plan or not any([self._is_changed(outcome[0]) for outcome in found]):
            return found
        due = Case(self._frame, snapshot).due()
        return [_outcome(self._frame, snapshot, due, outcome[0]) if self._is_changed(outcome[0]) else outcome
                for outcome in found]

    def _is_changed(self, event):
        return event[:2] == self._changed_start


def _outcome(frame, snapshot, due, event):
    case = case_behind(frame, snapshot, event)
    return event, case.is_right_behind(due), case.told()
