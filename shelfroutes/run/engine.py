"""Engines: they keep the results of a query up to date while rows arrive and leave and plans change."""

from shelfroutes.base.bags import Bag
from shelfroutes.base.names import is_integer, is_key, is_many, is_name, is_tuple
from shelfroutes.errors import (InvalidEvent, InvalidNumber, InvalidOperation, InvalidRow, NothingToUndo, TooMany,
                                UnknownKey, UnknownName)
from shelfroutes.plan.schemes import check_scheme
from shelfroutes.query.queries import is_row_of, is_table
from shelfroutes.query.worlds import World, results
from shelfroutes.run.events import is_event_form
from shelfroutes.run.flows import send
from shelfroutes.run.states import State
from shelfroutes.run.switches import do_switch, evict_key, load_key

MAX_ROWS = 100


class Engine:
    """An engine of a scheme.

    It is at a moment, a state with the events that led to it. Moments never change, so going back to one, as
    `undo` and the end of a trial do, brings back all of it.
    """

    def __init__(self, scheme):
        check_scheme(scheme)
        self._obeyed = scheme
        self._now = Moment(None, None, State(scheme.query, scheme.stores, scheme.first))
        # The moments that were undone, the earliest one last.
        self._undone = ()

    @property
    def scheme(self):
        """The scheme."""
        return self._obeyed

    @property
    def plan(self):
        """The name of the present plan."""
        return self._now.held_state.at_plan

    @plan.setter
    def plan(self, value):
        self.switch(value)

    @property
    def output(self):
        """The bag of the results in the output."""
        emitted = self._now.held_state.emitted
        return Bag({result: emitted[result] for result in emitted})

    @property
    def moves(self):
        """The triples (role, result, number) of what was emitted and retracted in the last event."""
        return self._now.held_state.last_moves

    @property
    def news(self):
        """The bag of the sums of the moves."""
        sums = {}
        for _, result, number in self._now.held_state.last_moves:
            sums[result] = sums.get(result, 0) + number
        return Bag(sums)

    @property
    def world(self):
        """The world of the rows that are there."""
        state = self._now.held_state
        return World(self._obeyed.query, rows={key: state.placed[key] for key in state.present})

    @property
    def log(self):
        """The tuple of the events."""
        events = []
        moment = self._now
        while moment.earlier is not None:
            events.append(moment.event)
            moment = moment.earlier
        return tuple(events[::-1])

    def add(self, table, row):
        """A row arrives; its key is returned."""
        if not is_table(self._obeyed.query, table):
            raise UnknownName(table)
        if not is_row_of(self._obeyed.query, table, row):
            raise InvalidRow("not a row of this table")
        if len(self) >= MAX_ROWS:
            raise TooMany(MAX_ROWS)
        state = self._now.held_state.copied()
        key = len(state.placed) + 1
        state.placed = {**state.placed, key: (table, row)}
        state.present = {**state.present, key: True}
        send(state, self._obeyed[state.at_plan], "add", key)
        self._go_on(("add", table, row), state)
        return key

    def remove(self, key):
        """A row leaves."""
        table, _ = self[key]
        if table in self._obeyed.lasting:
            raise InvalidOperation("rows of this table never leave")
        state = self._now.held_state.copied()
        state.present = {other: True for other in state.present if other != key}
        send(state, self._obeyed[state.at_plan], "remove", key)
        return self._go_on(("remove", key), state)

    def switch(self, plan):
        """Replace the present plan by another one."""
        steps = self._obeyed.steps_of(self.plan, plan)
        state = self._now.held_state.copied()
        do_switch(state, plan, steps)
        return self._go_on(("switch", plan), state)

    def load(self, store, key):
        """Load a key of a lazy store."""
        self._check_lazy(store, key)
        state = self._now.held_state.copied()
        load_key(state, store, key)
        return self._go_on(("load", store, key), state)

    def evict(self, store, key):
        """Unload a key of a lazy store."""
        self._check_lazy(store, key)
        state = self._now.held_state.copied()
        evict_key(state, store, key)
        return self._go_on(("evict", store, key), state)

    def _check_lazy(self, store, key):
        if not is_name(store) or store not in self._now.held_state.open_keys:
            raise UnknownName(store)
        if not is_integer(key):
            raise InvalidNumber(key)

    def _go_on(self, event, state):
        """Go on to the state behind an event."""
        self._now = Moment(event, self._now, state)
        self._undone = ()
        return self.news

    def __iadd__(self, other):
        if not is_tuple(other, 2, 2):
            raise InvalidOperation("not a pair of a table and a row")
        self.add(other[0], other[1])
        return self

    def __isub__(self, other):
        self.remove(other)
        return self

    def __call__(self, event):
        if not is_event_form(event):
            raise InvalidEvent("not of the form of an event")
        word = event[0]
        if word == "add":
            self.add(event[1], event[2])
        elif word == "remove":
            self.remove(event[1])
        elif word == "switch":
            self.switch(event[1])
        elif word == "load":
            self.load(event[1], event[2])
        else:
            self.evict(event[1], event[2])
        return self.news

    def is_right(self):
        """Whether the output is right, and no move has another number than 1 or -1."""
        due = results(self.world)
        return self.output == due and all([number in (1, -1) for _, _, number in self.moves])

    def held(self, store):
        """The bag of the matches in a store."""
        numbers = self._now.held_state.numbers
        if not is_name(store) or store not in numbers:
            raise UnknownName(store)
        return Bag({match: numbers[store][match] for match in numbers[store]})

    def loaded(self, store):
        """The ascending tuple of the loaded keys of a lazy store."""
        open_keys = self._now.held_state.open_keys
        if not is_name(store) or store not in open_keys:
            raise UnknownName(store)
        return tuple(sorted(list(open_keys[store])))

    def counted(self, counter):
        """A dict from the matches of the ties at which rows are counted to the keys of these rows, or True."""
        counts = self._now.held_state.counts
        if not is_name(counter) or counter not in counts:
            raise UnknownName(counter)
        return {match: counts[counter][match] for match in sorted(counts[counter])}

    def ever_placed(self):
        """A dict from all keys, also of rows that left, to the pairs of a table and a row."""
        placed = self._now.held_state.placed
        return {key: placed[key] for key in placed}

    def __getitem__(self, at):
        if at not in self:
            raise UnknownKey(at)
        return self._now.held_state.placed[at]

    def __iter__(self):
        raise TypeError("an engine is not iterated over")

    def __contains__(self, x):
        return is_key(x) and x in self._now.held_state.present

    def __len__(self):
        return len(self._now.held_state.present)

    def __eq__(self, other):
        return (isinstance(other, Engine) and self._obeyed == other._obeyed
                and self._now.held_state.is_like(other._now.held_state))

    def __str__(self):
        return f"engine with the plan {self.plan}, {len(self)} rows, {len(self.output)} results"

    def undo(self, *, many=1):
        """Put back all as before so many events, and return the length of the log."""
        if not is_many(many):
            raise InvalidNumber(many)
        if many > self._now.number:
            raise NothingToUndo(many)
        undone = list(self._undone)
        for _ in range(many):
            undone.append(self._now)
            self._now = self._now.earlier
        self._undone = tuple(undone)
        return self._now.number

    def redo(self, *, many=1):
        """Put back all as after so many events that were undone, and return the length of the log."""
        if not is_many(many):
            raise InvalidNumber(many)
        if many > len(self._undone):
            raise NothingToUndo(many)
        if many > 0:
            self._now = self._undone[-many]
            self._undone = self._undone[:-many]
        return self._now.number

    def trial(self):
        """A block behind which all of the engine is as before."""
        return Trial(self)

    def during(self, call):
        """What the call returns for this engine; all of it is as before then."""
        with self.trial():
            return call(self)

    def _follow(self, other):
        """Become an independent copy of another engine."""
        self._obeyed = other._obeyed
        self._now = other._now
        self._undone = other._undone

    def twin(self):
        """An independent copy."""
        made = Engine(self._obeyed)
        made._follow(self)
        return made


class Moment:
    """A state of an engine, the event that led to it, and the moment before it."""

    def __init__(self, event, earlier, state):
        self.event = event
        self.earlier = earlier
        self.held_state = state
        self.number = 0 if earlier is None else earlier.number + 1


class Trial:
    """A block behind which an engine is as before."""

    def __init__(self, engine):
        self._tried = engine

    def __enter__(self):
        self._before = self._tried._now
        self._undone = self._tried._undone
        return self._tried

    def __exit__(self, kind, value, trace):
        self._tried._now = self._before
        self._tried._undone = self._undone
