"""Pipelines at work: rows that arrive and leave go through them."""

from shelfroutes.base.bags import Bag
from shelfroutes.plan.steps import sign_of
from shelfroutes.query.links import Partners
from shelfroutes.run.joins import joined
from shelfroutes.run.states import check_matches


class Flow:
    """The matches with their numbers that come to the next step of a pipeline."""

    def __init__(self, state, word, role, key):
        self._state = state
        self._word = word
        self._role = role
        self._key = key
        self._along = (role,)
        self._found = {(key,): 1}

    def do(self, step, results):
        """Do one step; emitted and retracted results are added to a dict of their numbers."""
        action = step[0]
        if action == "update":
            self._update(step[1])
        elif action == "join":
            self._join(step[1])
        elif action == "count":
            self._count(step[1])
        elif action == "recount":
            self._recount(step[1], step[2])
        elif action == "emit":
            self._emit(results)
        else:
            self._choose(step[1], action == "some")

    def _update(self, name):
        state = self._state
        held = state.numbers[name]
        if self._word == "add":
            numbers = {match: held[match] for match in held}
            for match in self._found:
                if self._is_taken(name, match):
                    numbers[match] = numbers.get(match, 0) + self._found[match]
            check_matches(numbers)
        else:
            at = self._along.index(self._role)
            numbers = {match: held[match] for match in held if match[at] != self._key}
        state.numbers[name] = numbers

    def _is_taken(self, name, match):
        """Whether a store takes a match: a lazy one takes those with loaded keys."""
        state = self._state
        if state.entries[name][0] == "plain":
            return True
        return state.key_at(state.key_place(self._along, name), match) in state.open_keys[name]

    def _join(self, name):
        state = self._state
        self._found = joined(state, self._along, self._found, name)
        self._along = tuple(sorted(self._along + state.entries[name][1]))

    def _count(self, name):
        state = self._state
        kind, side = state.entries[name]
        at = self._along.index(side)
        counts = {match: state.counts[name][match] for match in state.counts[name]}
        passed = {}
        for match in self._found:
            ties = match[:at] + match[at + 1:]
            before = counts.get(ties)
            behind = self._counted_behind(kind, before)
            if behind is None:
                counts.pop(ties, None)
            else:
                counts[ties] = behind
            if (before is None) != (behind is None):
                passed[ties] = self._found[match]
        state.counts[name] = counts
        self._along = self._along[:at] + self._along[at + 1:]
        self._found = passed

    def _counted_behind(self, kind, before):
        """What is counted at a match behind a count step, None for nothing."""
        if kind == "flag":
            return True if self._word == "add" else None
        others = [key for key in (before or ()) if key != self._key]
        if self._word == "add":
            others.append(self._key)
        return tuple(sorted(others)) if others != [] else None

    def _recount(self, name, store):
        state = self._state
        fitting = recounted(state, name, self._found, store)
        others = {match: state.counts[name][match] for match in state.counts[name] if match not in self._found}
        state.counts[name] = {**others, **fitting}

    def _choose(self, name, is_wanted):
        """Pass on the matches with a counted row, or those without one."""
        state = self._state
        places = [self._along.index(role) for role in state.asked.ties(state.entries[name][1])]
        counts = state.counts[name]
        self._found = {match: self._found[match] for match in self._found
                       if (tuple([match[at] for at in places]) in counts) == is_wanted}

    def _emit(self, results):
        query = self._state.asked
        has_optional = query.optional is not None and query.optional in self._along
        sign = sign_of(query, self._word, self._role, optional=has_optional)
        places = [self._along.index(role) for role in query.core]
        for match in self._found:
            result = tuple([match[at] for at in places])
            if has_optional:
                result = result + (match[self._along.index(query.optional)],)
            elif query.optional is not None:
                result = result + (None,)
            results[result] = results.get(result, 0) + sign * self._found[match]


def recounted(state, name, found, store):
    """What a counter counts at some matches of its ties if just the rows in a store count; nothing is left out."""
    kind, side = state.entries[name]
    ties = state.asked.ties(side)
    partners = Partners(state.asked, state.placed, ties, (side,), state.numbers[store])
    counts = {}
    for match in found:
        keys = tuple(sorted([key for (key,) in partners.of_match(match)]))
        if keys != ():
            counts[match] = True if kind == "flag" else keys
    return counts


def send(state, plan, word, key):
    """Send a row through the pipelines of all roles of its table; the state keeps what they emit and retract."""
    moves = []
    for role in state.asked.played(state.placed[key][0]):
        results = {}
        for pipeline in plan[word, role]:
            flow = Flow(state, word, role, key)
            for step in pipeline:
                flow.do(step, results)
        # A bag puts results in their order, and leaves out numbers that are 0.
        moves.extend([(role, result, number) for result, number in Bag(results).pairs()])
    state.last_moves = tuple(moves)
    state.emitted = _with_moves(state.emitted, moves)


def _with_moves(emitted, moves):
    numbers = {result: emitted[result] for result in emitted}
    for _, result, number in moves:
        numbers[result] = numbers.get(result, 0) + number
    return {result: numbers[result] for result in numbers if numbers[result] != 0}
