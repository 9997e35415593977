"""Local certificates: each single event is right, with all that is used as it is meant to be."""

from shelfroutes.base.names import is_tuple
from shelfroutes.check.cases import Case, case_behind
from shelfroutes.check.frames import MAX_LISTED, STATES, frame_of
from shelfroutes.check.histories import is_counterexample
from shelfroutes.check.invariants import MAX_SNAPSHOTS, Reach, counterexample_by, is_invariant
from shelfroutes.check.uses import are_closed, are_items, are_uses, least_uses
from shelfroutes.errors import InvalidOperation, InvalidSnapshot, TooMany
from shelfroutes.plan.stores import is_store


def is_meant(scheme, names, snapshot):
    """Whether all stores and counters of an ascending tuple are as meant in a snapshot."""
    frame = frame_of(scheme)
    if not are_items(scheme, names):
        raise InvalidOperation("not an ascending tuple of stores and counters")
    if not frame.is_of_form(snapshot):
        raise InvalidSnapshot("not a snapshot of this scheme")
    return _are_meant(Case(frame, snapshot), names)


def meant_snapshots(scheme, uses):
    """Yield the meant snapshots for some uses, in ascending order."""
    frame = frame_of(scheme)
    if not are_uses(scheme, uses):
        raise InvalidOperation("not a dict from the reached plans to ascending tuples of stores and counters")
    _check_number(frame)
    yield from sorted(_all_meant(frame, uses))


def local_of(scheme):
    """The local certificate with the least uses, or None."""
    frame = _checked_frame(scheme)
    uses = least_uses(scheme)
    if _first_fault(frame, uses) is not None:
        return None
    return "local", tuple([(plan, uses[plan]) for plan in uses])


def is_local(scheme, value):
    """Whether the value is a local certificate."""
    frame = _checked_frame(scheme)
    if not is_tuple(value, 2, 2) or value[0] != "local":
        return False
    uses = _uses_told(scheme, value[1])
    return uses is not None and are_closed(scheme, uses) and _first_fault(frame, uses) is None


def fault_of(scheme):
    """A fault, or None."""
    frame = _checked_frame(scheme)
    return _first_fault(frame, least_uses(scheme))


def is_fault(scheme, value):
    """Whether the value is a fault."""
    frame = _checked_frame(scheme)
    if not is_tuple(value, 2, 2):
        return False
    snapshot, event = value
    if not frame.is_of_form(snapshot) or not frame.is_possible(snapshot, event):
        return False
    uses = least_uses(scheme)
    due = Case(frame, snapshot).due()
    return _is_one_of_the_meant(frame, uses, snapshot) and not _is_kept(frame, uses, snapshot, due, event)


def certificate_of(scheme):
    """The local certificate with the least uses, or else an invariant, or else a counterexample."""
    local = local_of(scheme)
    if local is not None:
        return local
    reach = Reach(scheme)
    return counterexample_by(scheme, reach.shortest()) if reach.invariant is None else reach.invariant


def is_certificate(scheme, value):
    """Whether the value is a local certificate, an invariant or a counterexample."""
    return is_local(scheme, value) or is_invariant(scheme, value) or is_counterexample(scheme, value)


def is_right_scheme(scheme):
    """Whether the scheme is right."""
    return local_of(scheme) is not None or Reach(scheme).invariant is not None


def _checked_frame(scheme):
    """The frame of a value that has to be a scheme without too many meant snapshots."""
    frame = frame_of(scheme)
    _check_number(frame)
    return frame


def _check_number(frame):
    """Raise an error if there are too many meant snapshots, for whatever uses."""
    many = len(frame.obeyed.reached)
    for values in _choices(frame):
        many = many * len(values)
    if many > MAX_SNAPSHOTS:
        raise TooMany(MAX_SNAPSHOTS)


def _choices(frame):
    """What the meant snapshots of a plan choose from: the states, the loaded keys, how many rows of side roles."""
    return ([STATES] * len(frame.core_roles) + [(False, True)] * len(frame.lazy_stores)
            + [tuple(range(MAX_LISTED + 1))] * len(frame.side_roles))


def _all_meant(frame, uses):
    """A list of the meant snapshots."""
    chosen = [()]
    for values in _choices(frame):
        chosen = [start + (value,) for start in chosen for value in values]
    many_core, many_sides = len(frame.core_roles), len(frame.side_roles)
    found = []
    for plan in uses:
        for values in chosen:
            states, loaded = values[:many_core], values[many_core:len(values) - many_sides]
            found.append(_meant(frame, uses, (plan, states, loaded), values[len(values) - many_sides:]))
    return found


def _meant(frame, uses, told, numbers):
    """The meant snapshot with a plan, states and loaded keys, and with so many rows of each side role."""
    plan, states, loaded = told
    names = uses[plan]
    not_in = [role for role, state in zip(frame.core_roles, states) if state != "in"]
    not_open = [name for name, is_open in zip(frame.lazy_stores, loaded) if not is_open]
    copies = []
    for name in frame.core_stores:
        is_whole = not any([role in not_in for role in frame.entries[name][1]])
        copies.append(int(is_whole and name in names and name not in not_open))
    listings = tuple([_listing(frame, names, not_in, side, number) for side, number in zip(frame.side_roles, numbers)])
    return plan, states, tuple(copies), loaded, listings


def _listing(frame, names, not_in, side, number):
    """What a meant snapshot tells of a side role with so many rows."""
    counter = frame.counter_of[side]
    is_told = counter in names and not any([role in not_in for role in frame.ties_of[side]])
    held = tuple([int(name in names) for name in frame.stores_of[side]])
    if frame.has_flag(side):
        return is_told and number > 0, ((True, held, False),) * number
    return None, ((True, held, is_told),) * number


def _is_one_of_the_meant(frame, uses, snapshot):
    plan, states, _, loaded, listings = snapshot
    if plan not in uses:
        return False
    numbers = tuple([len(rows) for _, rows in listings])
    return snapshot == _meant(frame, uses, (plan, states, loaded), numbers)


def _first_fault(frame, uses):
    """A meant snapshot and a possible event that is wrong or leaves something used not as meant, or None."""
    for snapshot in _all_meant(frame, uses):
        due = Case(frame, snapshot).due()
        for event in frame.possible_events(snapshot):
            if not _is_kept(frame, uses, snapshot, due, event):
                return snapshot, event
    return None


def _is_kept(frame, uses, snapshot, due, event):
    """Whether an event is right at a snapshot with these due results, and all that is used is as meant behind it."""
    case = case_behind(frame, snapshot, event)
    return case.is_right_behind(due) and _are_meant(case, uses[case.at_plan])


def _are_meant(case, names):
    return all([_is_as_meant(case, name) for name in names])


def _is_as_meant(case, name):
    """Whether a store or a counter is as meant."""
    entry = case.frame.entries[name]
    if name in case.copies:
        # A lazy store whose key is not loaded is meant to hold nothing.
        is_told = case.are_open.get(name, True) and all([case.states[role] == "in" for role in entry[1]])
        return case.copies[name] == int(is_told)
    if is_store(entry):
        return all([row.copies[name] == int(row.is_in) for row in case.listed[entry[1][0]]])
    side = entry[1]
    if not all([case.states[role] == "in" for role in case.frame.ties_of[side]]):
        return True
    if entry[0] == "flag":
        return case.flags[side] == any([row.is_in for row in case.listed[side]])
    return all([row.is_counted == row.is_in for row in case.listed[side]])


def _uses_told(scheme, value):
    """The uses that a tuple of pairs tells, or None if these are no uses or not in ascending order."""
    plans = scheme.reached
    if not is_tuple(value, len(plans), len(plans)) or not all([is_tuple(pair, 2, 2) for pair in value]):
        return None
    if not all([told == plan and are_items(scheme, names) for plan, (told, names) in zip(plans, value)]):
        return None
    return {plan: names for plan, names in value}
