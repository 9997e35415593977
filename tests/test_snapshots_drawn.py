"""Snapshots along drawn histories, beside an engine: each event of one full match leads to what the engine holds of it.

Each role has a table of its own here, as a row of a snapshot has one role only.
"""

import unittest
from collections import Counter

from shelfroutes.check.snapshots import (due_at, events_at, first_snapshot, is_right, is_snapshot, output_change,
                                         snapshot_after, snapshot_of)
from shelfroutes.run.engine import Engine
from tests import plain
from tests.draws import SIDES, draw_history, draw_query, draw_scheme, rng_of
from tests.trees import draw_tree_scheme


def capped(many):
    return max(-2, min(2, many))


class Followed:
    """A full match with further rows, followed through the events of an engine."""

    def __init__(self, test, scheme, events, rows, further):
        self.test, self.scheme, self.query = test, scheme, scheme.query
        self.events, self.rows, self.further = events, rows, further
        self.roles = {key: role for role, key in rows.items()}
        self.sides = {key: side for side, keys in further.items() for key in keys}
        self.placed = dict(enumerate([event[1:] for event in events if event[0] == "add"], 1))
        self.engine, self.many = Engine(scheme), 0
        self.snapshot = first_snapshot(scheme)

    def triple(self, key):
        """What a snapshot lists of a row of a side role, read off the engine."""
        side, engine = self.sides[key], self.engine
        stores = self.scheme.stores
        held = tuple(capped(engine.held(name)[(key,)]) for name in stores if stores[name] == ("plain", (side,)))
        counter, = [name for name in stores if stores[name] == ("counter", side)] or [None]
        counted = () if counter is None else engine.counted(counter).get(
            tuple(self.rows[role] for role in plain.ties(self.query, side)), ())
        return key in engine, held, key in counted

    def event_of(self, event):
        """The snapshot event, or None if this has nothing to do with the full match."""
        word = event[0]
        if word == "add":
            role = self.roles.get(self.many + 1, self.sides.get(self.many + 1))
            return None if role is None else ("add", role)
        if word == "remove":
            if event[1] in self.sides:
                return ("remove", self.sides[event[1]], self.triple(event[1]))
            return ("remove", self.roles[event[1]]) if event[1] in self.roles else None
        if word == "switch":
            return event
        _, _, role, column, _, _ = self.scheme.stores[event[1]]
        table, row = self.placed[self.rows[role]]
        is_mine = row[self.query.tables[table].index(column)] == event[2]
        return event[:2] if is_mine and (word == "load") != (event[2] in self.engine.loaded(event[1])) else None

    def listed(self):
        """The keys of the optional rows that are listed, in the order in which they are."""
        found = []
        for key in self.further.get(self.query.optional, ()):
            if key <= self.many:
                triple = self.triple(key)
                if triple[0] or triple[2] or any(triple[1]):
                    found.append((triple, key))
        return sorted(found)

    def go(self):
        for event in self.events:
            told = self.event_of(event)
            listed = self.listed()
            if told == ("add", self.query.optional):
                listed.append((None, self.many + 1))
            news = self.engine(event)
            self.many += event[0] == "add"
            if told is None:
                changed = (0, (0,) * len(listed))
            else:
                self.test.assertIn(told, events_at(self.scheme, self.snapshot))
                changed = output_change(self.scheme, self.snapshot, told)
                self.check_right(told, changed)
                self.snapshot = snapshot_after(self.scheme, self.snapshot, told)
            self.check_changes(news, listed, changed)
            self.check_snapshot()

    def results(self, keys):
        """The whole result, and those of some rows."""
        core = tuple(self.rows[role] for role in plain.cores(self.query))
        whole = core if self.query.optional is None else core + (None,)
        return whole, [core + (key,) for key in keys]

    def check_changes(self, news, listed, changed):
        def many(result):
            return capped(news[result]) if all(key is None or key <= self.many for key in result) else 0
        whole, others = self.results([key for _, key in listed])
        self.test.assertEqual(changed[0], many(whole))
        if len({triple for triple, _ in listed}) == len(listed):
            self.test.assertEqual(changed[1], tuple(many(result) for result in others))
        else:
            self.test.assertEqual(sorted(changed[1]), sorted(many(result) for result in others))

    def check_right(self, told, changed):
        """An event is right if what is due changes just as much."""
        before = due_at(self.scheme, self.snapshot)
        behind = due_at(self.scheme, snapshot_after(self.scheme, self.snapshot, told))
        if len(before[1]) == len(behind[1]) == 0:
            self.test.assertIs(is_right(self.scheme, self.snapshot, told), changed == (behind[0] - before[0], ()))
        elif is_right(self.scheme, self.snapshot, told):
            self.test.assertEqual(changed[0], behind[0] - before[0])
            self.test.assertEqual(sum(changed[1]), sum(behind[1]) - sum(before[1]))

    def check_snapshot(self):
        self.test.assertIs(is_snapshot(self.scheme, self.snapshot), True)
        if self.many >= max(self.roles):
            further = {side: tuple(key for key in keys if key <= self.many) for side, keys in self.further.items()}
            self.test.assertEqual(snapshot_of(self.engine, self.rows, further), self.snapshot)
            rows = {key: self.engine[key] for key in self.placed if key in self.engine}
            due = plain.results(self.query, rows)
            whole, others = self.results([key for _, key in self.listed()])
            self.test.assertEqual(due_at(self.scheme, self.snapshot),
                                  (int(whole in due), tuple(int(result in due) for result in others)))
            self.test.seen["compared"] += 1


class Drawn(unittest.TestCase):
    def setUp(self):
        self.seen = Counter()

    def follow(self, scheme, events, most):
        """Follow some of the full matches of all rows of a history, with all rows that fit."""
        query = scheme.query
        placed = dict(enumerate([event[1:] for event in events if event[0] == "add"], 1))
        found = 0
        for keys in plain.all_matches(query, placed, plain.cores(query))[::3]:
            rows = dict(zip(plain.cores(query), keys))
            further = {side: plain.fits(query, placed, rows, side) for side in plain.sides(query)}
            if found < most and all(len(keys) <= 2 for keys in further.values()):
                Followed(self, scheme, events, rows, further).go()
                found += 1
        self.seen["followed"] += found

    def test_drawn_schemes(self):
        for seed in range(160):
            rng = rng_of("snapshots", seed)
            scheme = draw_scheme(rng, draw_query(rng, own_tables=True))
            self.follow(scheme, draw_history(seed, scheme, 25, most=(0, 1, 1, 2)[seed % 4]), 2)
        self.assertGreater(self.seen["followed"], 60)
        self.assertGreater(self.seen["compared"], 1000)

    def test_schemes_from_trees(self):
        for seed in range(120):
            rng = rng_of("snapshots of trees", seed)
            scheme = draw_tree_scheme(rng, lambda: draw_query(rng, sides=SIDES[seed % 8], own_tables=True), spoilt=seed % 3)
            self.follow(scheme, draw_history(seed, scheme, 25, most=1 + seed % 2), 2)
        self.assertGreater(self.seen["followed"], 60)
        self.assertGreater(self.seen["compared"], 1000)

    def test_schemes_from_trees_are_right_at_what_they_reach(self):
        """All events along drawn paths of snapshots are right."""
        changes = Counter()
        for seed in range(60):
            rng = rng_of("paths", seed)
            scheme = draw_tree_scheme(rng, lambda: draw_query(rng, sides=SIDES[seed % 8], own_tables=True))
            snapshot = first_snapshot(scheme)
            for _ in range(40):
                events = events_at(scheme, snapshot)
                self.assertEqual(events, tuple(sorted(events)))
                if not events:
                    break
                event = rng.choice(events)
                self.assertIs(is_right(scheme, snapshot, event), True, (snapshot, event))
                changes[output_change(scheme, snapshot, event)] += 1
                snapshot = snapshot_after(scheme, snapshot, event)
        self.assertGreater(min(changes[1, ()], changes[-1, ()]), 10)


if __name__ == "__main__":
    unittest.main()
