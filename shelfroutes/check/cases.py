"""Snapshots at work: what events do to one full match and its further rows."""

from shelfroutes.check.frames import MAX_COPIES, is_worth_listing
from shelfroutes.plan.steps import sign_for


class Further:
    """A listed row of a side role: whether it is in, how often each store of the role holds it, if it is counted."""

    def __init__(self, is_in, copies, is_counted):
        self.is_in = is_in
        self.copies = copies
        self.is_counted = is_counted

    def triple(self):
        """The row as a snapshot lists it."""
        return self.is_in, tuple(list(self.copies.values())), self.is_counted


class Case:
    """A snapshot that is worked on. Listed rows keep their indices while an event is done."""

    def __init__(self, frame, snapshot):
        at_plan, states, copies, are_open, listings = snapshot
        self.frame = frame
        self.at_plan = at_plan
        self.states = dict(zip(frame.core_roles, states))
        self.copies = dict(zip(frame.core_stores, copies))
        self.are_open = dict(zip(frame.lazy_stores, are_open))
        self.flags = {}
        self.listed = {}
        for side, (flag, rows) in zip(frame.side_roles, listings):
            self.flags[side] = flag
            self.listed[side] = [Further(row[0], dict(zip(frame.stores_of[side], row[1])), row[2]) for row in rows]
        # What is emitted less what is retracted: None stands for the whole result, an index for a listed row.
        self.emitted = {}

    def told(self):
        """The snapshot, without rows that are not listed any more."""
        listings = []
        for side in self.frame.side_roles:
            rows = [row.triple() for row in self.listed[side]]
            listings.append((self.flags[side], tuple(sorted([row for row in rows if is_worth_listing(row)]))))
        return (self.at_plan, tuple(list(self.states.values())), tuple(list(self.copies.values())),
                tuple(list(self.are_open.values())), tuple(listings))

    def shown(self, name):
        """How often a store of core roles shows its part of the full match."""
        entry = self.frame.entries[name]
        if entry[0] == "plain" or self.are_open[name]:
            return self.copies[name]
        return self.shown_by_both(entry[4], entry[5])

    def shown_by_both(self, one, other):
        """How often the join of what two stores show has its part of the full match."""
        return capped(self.shown(one) * self.shown(other))

    def has_counted(self, side):
        """Whether a row of a side role is counted here, or its flag is True."""
        return self.flags[side] is True or any([row.is_counted for row in self.listed[side]])

    def recount(self, side, store):
        """Count just the rows that a store of a side role holds; None counts nothing."""
        are_held = [store is not None and row.copies[store] > 0 for row in self.listed[side]]
        if self.flags[side] is not None:
            self.flags[side] = any(are_held)
        else:
            for row, is_held in zip(self.listed[side], are_held):
                row.is_counted = is_held

    def due(self):
        """1 or 0 for the whole result, and for each listed row of the optional role."""
        frame = self.frame
        is_due = all([self.states[role] == "in" for role in frame.core_roles])
        for side in frame.side_roles:
            is_in = any([row.is_in for row in self.listed[side]])
            if side != frame.optional_role and is_in != (frame.sorts[side] == "some"):
                is_due = False
        if frame.optional_role is None:
            return int(is_due), ()
        rows = [is_due and row.is_in for row in self.listed[frame.optional_role]]
        return int(is_due and not any(rows)), tuple([int(is_row_due) for is_row_due in rows])

    def change(self):
        """What is emitted less what is retracted: of the whole result, and of each listed row of the optional role."""
        whole = self.emitted.get(None, 0)
        optional = self.frame.optional_role
        if optional is None:
            return whole, ()
        return whole, tuple([self.emitted.get(index, 0) for index in range(len(self.listed[optional]))])

    def is_right_behind(self, due):
        """Whether each result was emitted, less retracted, just as often as what is due has changed since."""
        whole, rows = due
        whole_now, rows_now = self.due()
        # A row that arrives was not due before.
        rows = rows + (0,) * (len(rows_now) - len(rows))
        return self.change() == (whole_now - whole, tuple([two - one for one, two in zip(rows, rows_now)]))

    def do(self, event):
        """Do a possible event."""
        word, name = event[0], event[1]
        if word == "add":
            self._arrive(name)
        elif word == "remove":
            self._leave(event)
        elif word == "switch":
            for step in self.frame.obeyed.steps_of(self.at_plan, name):
                self._do_change(step)
            self.at_plan = name
        elif word == "load":
            self.copies[name] = self.shown(name)
            self.are_open[name] = True
        else:
            self.copies[name] = 0
            self.are_open[name] = False

    def _arrive(self, role):
        index = None
        if role in self.states:
            self.states[role] = "in"
        else:
            index = len(self.listed[role])
            self.listed[role].append(Further(True, {name: 0 for name in self.frame.stores_of[role]}, False))
        self._send("add", role, index)

    def _leave(self, event):
        index, role = None, event[1]
        if role in self.states:
            self.states[role] = "gone"
        else:
            index = [row.triple() for row in self.listed[role]].index(event[2])
            self.listed[role][index].is_in = False
        self._send("remove", role, index)

    def _send(self, word, role, index):
        """Send a row through its pipelines."""
        for pipeline in self.frame.routes(self.at_plan, word, role):
            course = Course(self, word, role, index)
            for step in pipeline:
                course.do_step(step)

    def emit(self, index, number):
        """Emit the whole result, or that of a listed row, or retract it if the number is below 0."""
        sum_up = self.emitted.get(index, 0) + number
        self.emitted[index] = max(-MAX_COPIES, min(MAX_COPIES, sum_up))

    def _do_change(self, step):
        """Do a step of a transition."""
        action, name = step[0], step[1]
        if action == "fill":
            self.copies[name] = self.shown_by_both(step[2], step[3])
        elif action == "append":
            self.copies[name] = capped(self.copies[name] + self.shown_by_both(step[2], step[3]))
        elif action == "clear":
            self._clear(name)
        else:
            is_there = action == "recount" and self.copies[step[2]] > 0
            self.recount(self.frame.entries[name][1], step[3] if is_there else None)

    def _clear(self, name):
        if name in self.copies:
            self.copies[name] = 0
            if name in self.are_open:
                self.are_open[name] = False
            return
        (side,) = self.frame.entries[name][1]
        for row in self.listed[side]:
            row.copies[name] = 0


class Course:
    """What comes to the next step of a pipeline: numbers of the match.

    They stand under None for the match without a side role, under indices for the match with a listed row.
    """

    def __init__(self, case, word, role, index):
        self._case = case
        self._word = word
        self._role = role
        self._index = index
        self._numbers = {index: 1}

    def do_step(self, step):
        """Do one step."""
        action, case = step[0], self._case
        if action == "update":
            self._update(step[1])
        elif action == "join":
            self._join(step[1])
        elif action == "count":
            self._count()
        elif action == "recount":
            if self._numbers[None] > 0:
                case.recount(case.frame.entries[step[1]][1], step[2])
        elif action == "emit":
            self._emit()
        else:
            is_passed = case.has_counted(case.frame.entries[step[1]][1]) == (action == "some")
            self._numbers = {index: self._numbers[index] if is_passed else 0 for index in self._numbers}

    def _update(self, name):
        case = self._case
        copies = case.copies if self._index is None else case.listed[self._role][self._index].copies
        if self._word == "remove":
            copies[name] = 0
        elif name not in case.are_open or case.are_open[name]:
            copies[name] = capped(copies[name] + self._numbers[self._index])

    def _join(self, name):
        case = self._case
        if name in case.copies:
            times = case.shown(name)
            self._numbers = {index: capped(self._numbers[index] * times) for index in self._numbers}
        else:
            number = self._numbers[None]
            (side,) = case.frame.entries[name][1]
            rows = list(enumerate(case.listed[side]))
            self._numbers = {index: capped(number * row.copies[name]) for index, row in rows}

    def _count(self):
        """Count the row that arrives or leaves, or count it no more; pass on what this makes a difference to."""
        case, side = self._case, self._role
        number = self._numbers[self._index]
        was_counted = case.has_counted(side)
        if number > 0 and case.flags[side] is None:
            case.listed[side][self._index].is_counted = self._word == "add"
        elif number > 0:
            case.flags[side] = self._word == "add"
        self._numbers = {None: number if case.has_counted(side) != was_counted else 0}

    def _emit(self):
        sort = self._case.frame.sorts.get(self._role, "core")
        for index in self._numbers:
            sign = sign_for(sort, self._word, index is not None)
            self._case.emit(index, sign * self._numbers[index])


def case_behind(frame, snapshot, event):
    """The snapshot as it is worked on, behind a possible event."""
    case = Case(frame, snapshot)
    case.do(event)
    return case


def capped(many):
    """The number as snapshots tell it."""
    return min(many, MAX_COPIES)
