"""Lean schemes: right ones from which no step can be left out."""

from shelfroutes.base.names import is_same, is_tuple
from shelfroutes.check.frames import Frame
from shelfroutes.check.histories import is_counterexample
from shelfroutes.check.invariants import ReachSearch, counterexample_by
from shelfroutes.check.local import is_right_scheme, local_of
from shelfroutes.check.outcomes import ChangedOutcomes, KeptOutcomes
from shelfroutes.errors import InvalidOperation, InvalidPlan
from shelfroutes.plan.schemes import check_scheme
from shelfroutes.run.guarded import Guard


def places(scheme):
    """The ascending tuple of the places of all steps."""
    check_scheme(scheme)
    return _all_places(scheme)


def without_step(scheme, place):
    """The scheme without the step at a place."""
    _check_place(scheme, place)
    return _without(scheme, place)


def can_leave_out(scheme, place):
    """Whether the step at a place of a right scheme can be left out."""
    _check_place(scheme, place)
    Guard.check(scheme)
    return _can_go(scheme, place)


def is_lean(scheme):
    """Whether no step of a right scheme can be left out."""
    Guard.check(scheme)
    outcomes = KeptOutcomes(Frame(scheme))
    for place in _all_places(scheme):
        if LeftOut(scheme, place, outcomes).is_enough:
            return False
    return True


def lean_of(scheme):
    """A lean scheme that is left of a right one."""
    Guard.check(scheme)
    return Diet(scheme).left


def lean_paper(scheme):
    """A lean paper of a right scheme."""
    Guard.check(scheme)
    diet = Diet(scheme)
    return tuple(diet.gone), tuple(diet.reasons)


def is_lean_paper(scheme, value):
    """Whether the value is a lean paper of a right scheme."""
    Guard.check(scheme)
    if not is_tuple(value, 2, 2) or not isinstance(value[0], tuple):
        return False
    gone, reasons = value
    left = scheme
    for place in gone:
        if not _is_place(left, place) or not _can_go(left, place):
            return False
        left = _without(left, place)
    told = _all_places(left)
    if not is_tuple(reasons, len(told), len(told)):
        return False
    return all([_is_reason(left, place, pair) for place, pair in zip(told, reasons)])


class Diet:
    """What is left of a right scheme when all steps that can be left out are gone, one after another."""

    def __init__(self, scheme):
        self.left = scheme
        self.gone = []
        self.reasons = []
        is_lean_now = False
        while not is_lean_now:
            many = len(self.gone)
            self._go_through_places()
            # A step that had to stay can be left out when a later one is gone.
            is_lean_now = len(self.gone) == many

    def _go_through_places(self):
        """Leave out what can be left out at each place, and keep the reasons for all the others."""
        self.reasons = []
        at = 0
        told = _all_places(self.left)
        outcomes = KeptOutcomes(Frame(self.left))
        while at < len(told):
            attempt = LeftOut(self.left, told[at], outcomes)
            if attempt.is_enough:
                self.gone.append(told[at])
                self.left = attempt.rest
                told = _all_places(self.left)
                outcomes = KeptOutcomes(Frame(self.left))
            else:
                self.reasons.append((told[at], attempt.reason))
                at = at + 1


class LeftOut:
    """A scheme without one step: no scheme at all, a right one, or a wrong one with a counterexample as its reason.

    What events do in the scheme itself is asked for again and again: one step changes little of it.
    """

    def __init__(self, scheme, place, outcomes):
        self.rest = _rest_of(scheme, place)
        self.reason = None
        if self.rest is not None and local_of(self.rest) is None:
            frame = Frame(self.rest)
            changed = ChangedOutcomes(frame, outcomes, place[:4] if place[0] == "plan" else place[:3])
            self.reason = counterexample_by(self.rest, ReachSearch(frame.beginning(), changed).shortest_path())
        self.is_enough = self.rest is not None and self.reason is None


def _all_places(scheme):
    plans, transitions = scheme.plans, scheme.transitions
    found = []
    for name in plans:
        for word, role in plans[name]:
            for index, pipeline in enumerate(plans[name][word, role]):
                found.extend([("plan", name, word, role, index, at) for at in range(len(pipeline))])
    for name, other in transitions:
        found.extend([("switch", name, other, at) for at in range(len(transitions[name, other]))])
    return tuple(sorted(found))


def _without(scheme, place):
    """The scheme without the step at one of its places."""
    if place[0] == "switch":
        _, name, other, at = place
        return scheme.with_steps(name, other, _without_one(scheme.steps_of(name, other), at))
    _, name, word, role, index, at = place
    pipelines = scheme[name][word, role]
    rest = _without_one(pipelines[index], at)
    rests = pipelines[:index] + ((rest,) if rest != () else ()) + pipelines[index + 1:]
    return scheme.with_plan(name, scheme[name].replaced(word, role, rests))


def _without_one(steps, at):
    return steps[:at] + steps[at + 1:]


def _rest_of(scheme, place):
    """The scheme without the step at one of its places, or None if this is no scheme."""
    try:
        return _without(scheme, place)
    except InvalidPlan:
        return None


def _can_go(scheme, place):
    """Whether a scheme is left without the step at one of its places, and is right."""
    rest = _rest_of(scheme, place)
    return rest is not None and is_right_scheme(rest)


def _is_place(scheme, value):
    return any([is_same(value, place) for place in _all_places(scheme)])


def _is_reason(scheme, place, value):
    """Whether the value is a pair of a place and a reason why its step cannot be left out."""
    if not is_tuple(value, 2, 2) or not is_same(value[0], place):
        return False
    rest = _rest_of(scheme, place)
    return value[1] is None if rest is None else is_counterexample(rest, value[1])


def _check_place(scheme, value):
    check_scheme(scheme)
    if not _is_place(scheme, value):
        raise InvalidOperation("not a place of a step")
