"""Snapshots of one full match: what an engine holds of it, and what events do to it."""

from shelfroutes.base.names import is_key, is_tuple
from shelfroutes.check.cases import Case, capped, case_behind
from shelfroutes.check.frames import Frame, frame_of, is_worth_listing
from shelfroutes.errors import InvalidEvent, InvalidOperation, InvalidSnapshot
from shelfroutes.run.engine import Engine


def first_snapshot(scheme):
    """The snapshot of the empty engine with the first plan."""
    return frame_of(scheme).beginning()


def is_snapshot(scheme, value):
    """Whether the value has the form of a snapshot, reached or not."""
    return frame_of(scheme).is_of_form(value)


def events_at(scheme, snapshot):
    """The ascending tuple of the possible events."""
    return _frame_at(scheme, snapshot).possible_events(snapshot)


def due_at(scheme, snapshot):
    """1 or 0 for the whole result, and for each listed row of the optional role."""
    return Case(_frame_at(scheme, snapshot), snapshot).due()


def snapshot_after(scheme, snapshot, event):
    """The next snapshot."""
    return _case_after(scheme, snapshot, event).told()


def output_change(scheme, snapshot, event):
    """What is emitted less what is retracted, of the whole result and of each row of the optional role."""
    return _case_after(scheme, snapshot, event).change()


def is_right(scheme, snapshot, event):
    """Whether each result is emitted, less retracted, just as often as what is due changes."""
    case = _case_after(scheme, snapshot, event)
    return case.is_right_behind(Case(case.frame, snapshot).due())


def snapshot_of(engine, rows, further):
    """The snapshot of a full match in an engine, with some further rows of the side roles."""
    if not isinstance(engine, Engine):
        raise InvalidOperation("not an engine")
    query, placed = engine.scheme.query, engine.ever_placed()
    if not _is_full_match(query, placed, rows):
        raise InvalidOperation("not a dict from the core roles to the keys of a full match")
    if not _are_further(query, placed, rows, further):
        raise InvalidOperation("not a dict from side roles to keys of at most two rows that fit")
    frame = Frame(engine.scheme)
    states = tuple(["in" if rows[role] in engine else "gone" for role in frame.core_roles])
    copies = tuple([_copies_in(engine, rows, name) for name in frame.core_stores])
    are_open = tuple([_is_open(engine, rows, name) for name in frame.lazy_stores])
    listings = tuple([_listing(engine, frame, rows, side, further.get(side, ())) for side in frame.side_roles])
    return engine.plan, states, copies, are_open, listings


def _frame_at(scheme, snapshot):
    frame = frame_of(scheme)
    if not frame.is_of_form(snapshot):
        raise InvalidSnapshot("not a snapshot of this scheme")
    return frame


def _case_after(scheme, snapshot, event):
    """The snapshot as it is worked on, behind an event."""
    frame = _frame_at(scheme, snapshot)
    if not frame.is_possible(snapshot, event):
        raise InvalidEvent("not possible at this snapshot")
    return case_behind(frame, snapshot, event)


def _is_full_match(query, placed, value):
    """Whether the value is a dict from all core roles to keys of rows that are a full match."""
    if not isinstance(value, dict) or len(value) != len(query.core):
        return False
    return all([role in value for role in query.core]) and _are_accepted(query, placed, value)


def _are_accepted(query, placed, keys):
    """Whether a dict gives roles keys of rows of their tables such that all tests hold."""
    for role in keys:
        if not is_key(keys[role]) or keys[role] not in placed or placed[keys[role]][0] != query.table_of(role):
            return False
    return query.accepts({role: placed[keys[role]][1] for role in keys})


def _are_further(query, placed, rows, value):
    """Whether the value is a dict from side roles to ascending tuples of at most two keys of rows that fit."""
    if not isinstance(value, dict) or not all([role in query and role not in query.core for role in value]):
        return False
    for side in value:
        keys = value[side]
        if not is_tuple(keys, 0, 2) or not all([_are_accepted(query, placed, {**rows, side: key}) for key in keys]):
            return False
        if len(keys) == 2 and keys[0] >= keys[1]:
            return False
    return True


def _part(rows, roles):
    return tuple([rows[role] for role in roles])


def _copies_in(engine, rows, name):
    return capped(engine.held(name)[_part(rows, engine.scheme.stores[name][1])])


def _is_open(engine, rows, name):
    """Whether the key of the full match is loaded in a lazy store."""
    _, _, role, column, _, _ = engine.scheme.stores[name]
    _, row = engine.ever_placed()[rows[role]]
    return row[engine.scheme.query.columns_of(role).index(column)] in engine.loaded(name)


def _listing(engine, frame, rows, side, keys):
    """What a snapshot tells of a side role, with the rows that have these keys."""
    counter = frame.counter_of[side]
    counted = engine.counted(counter).get(_part(rows, frame.ties_of[side]), ())
    has_flag = frame.has_flag(side)
    listed = []
    for key in keys:
        held = tuple([capped(engine.held(name)[(key,)]) for name in frame.stores_of[side]])
        listed.append((key in engine, held, not has_flag and key in counted))
    worthy = [row for row in listed if is_worth_listing(row)]
    return counted is True if has_flag else None, tuple(sorted(worthy))
