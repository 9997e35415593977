"""Histories of engines: where they go wrong, and short ones that do."""

from shelfroutes.base.names import is_many, is_tuple
from shelfroutes.errors import (InvalidEvent, InvalidNumber, InvalidOperation, InvalidRow, Stopped, TooMany, UnknownKey,
                                UnknownName)
from shelfroutes.plan.schemes import check_scheme
from shelfroutes.run.engine import Engine
from shelfroutes.run.events import is_event_form

MAX_EVENTS = 400


def is_event(value):
    """Whether the value has the form of an event."""
    return is_event_form(value)


def without_event(events, index):
    """The events without the one with this index; if this is an arrival, the row never leaves either."""
    _check_events(events)
    if not is_many(index) or index >= len(events):
        raise InvalidNumber(index)
    return _without(events, index)


def run(scheme, events):
    """A new engine behind these events."""
    check_scheme(scheme)
    _check_events(events)
    engine = Engine(scheme)
    for index in range(len(events)):
        _do_event(engine, events, index)
    return engine


def outputs(scheme, events):
    """Yield the output of a new engine behind each of these events."""
    check_scheme(scheme)
    _check_events(events)
    engine = Engine(scheme)
    for index in range(len(events)):
        _do_event(engine, events, index)
        yield engine.output


def first_wrong(scheme, events):
    """The index of the first event after which the history is wrong, or None."""
    check_scheme(scheme)
    _check_events(events)
    engine = Engine(scheme)
    for index in range(len(events)):
        _do_event(engine, events, index)
        if not engine.is_right():
            return index
    return None


def is_history(scheme, value):
    """Whether the value is a history: events that a new engine accepts, one after another."""
    check_scheme(scheme)
    if not _are_events(value):
        return False
    try:
        run(scheme, value)
    except Stopped:
        return False
    return True


def is_counterexample(scheme, value):
    """Whether the value is a history that is wrong after its last event, and right after each earlier one."""
    check_scheme(scheme)
    if not is_tuple(value, 2, 2) or value[0] != "counterexample" or not _are_events(value[1]):
        return False
    return _wrong_index(scheme, value[1]) == len(value[1]) - 1


def is_tight(scheme, value):
    """Whether the value is a counterexample that is right, as far as it goes, without any one of its events."""
    if not is_counterexample(scheme, value):
        return False
    events = value[1]
    for index in range(len(events)):
        if _wrong_index(scheme, _without(events, index)) is not None:
            return False
    return True


def tightened(scheme, value):
    """A tight counterexample that is made from a counterexample by leaving out events."""
    if not is_counterexample(scheme, value):
        raise InvalidEvent("not a counterexample of this scheme")
    events = value[1]
    many = len(events)
    # Many at a time first, as most events of a long history have nothing to do with what is wrong.
    while many > 1:
        many = many // 2
        events = _shortened(scheme, events, many)
    rest = _shortened(scheme, events, 1)
    while len(rest) < len(events):
        events = rest
        rest = _shortened(scheme, events, 1)
    return "counterexample", events


def _shortened(scheme, events, many):
    """Wrong events that are left if, from place to place, so many at a time are left out as long as this is wrong."""
    at = 0
    while at < len(events):
        shorter = events
        for index in reversed(range(at, min(at + many, len(events)))):
            shorter = _without(shorter, index)
        wrong = _wrong_index(scheme, shorter)
        if wrong is None:
            at = at + many
        else:
            events = shorter[:wrong + 1]
    return events


def _wrong_index(scheme, events):
    """The first index after which events are wrong, or None if they are not, or if this is not found out."""
    try:
        return first_wrong(scheme, events)
    except (Stopped, TooMany):
        return None


def _check_events(value):
    if not _are_events(value):
        raise InvalidEvent("not a tuple of at most 400 events")


def _are_events(value):
    return is_tuple(value, 0, MAX_EVENTS) and all([is_event(event) for event in value])


def _do_event(engine, events, index):
    """Do one of the events at an engine."""
    try:
        engine(events[index])
    except (UnknownName, UnknownKey, InvalidRow, InvalidOperation, InvalidNumber, TooMany) as error:
        raise Stopped(index) from error


def _without(events, index):
    if events[index][0] != "add":
        return events[:index] + events[index + 1:]
    key = len([event for event in events[:index + 1] if event[0] == "add"])
    left = []
    for event in events[:index] + events[index + 1:]:
        if event[0] != "remove" or event[1] < key:
            left.append(event)
        elif event[1] > key:
            left.append(("remove", event[1] - 1))
    return tuple(left)
