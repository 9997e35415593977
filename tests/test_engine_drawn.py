"""Engines along drawn histories, against a second reckoning that tries all rows of all roles."""

import unittest
from collections import Counter

from shelfroutes.errors import TooMany
from shelfroutes.run.engine import Engine
from tests import plain
from tests.draws import SIDES, draw_event, draw_history, draw_query, draw_scheme, rng_of
from tests.trees import draw_tree_scheme


def keys_of(match):
    return tuple(key for _, key in sorted(match))


def in_order(result):
    return [-1 if key is None else key for key in result]


class Compared(unittest.TestCase):
    def check(self, engine, told):
        """That an engine is what the second reckoning says."""
        self.assertEqual(dict(engine.output.pairs()), {result: many for result, many in told.output.items() if many})
        moves = sorted(told.moves.items(), key=lambda move: (move[0][0], in_order(move[0][1])))
        self.assertEqual(engine.moves, tuple((role, result, many) for (role, result), many in moves))
        news = Counter()
        for (_, result), many in told.moves.items():
            news[result] += many
        self.assertEqual(dict(engine.news.pairs()), {result: many for result, many in news.items() if many})
        self.assertEqual((engine.plan, engine.world.rows, len(engine)), (told.plan, told.present(), len(told.there)))
        for name, entry in told.entries.items():
            if name in told.stores:
                held = {keys_of(match): many for match, many in told.stores[name].items()}
                self.assertEqual(dict(engine.held(name).pairs()), held)
            if name in told.open:
                self.assertEqual(engine.loaded(name), tuple(sorted(told.open[name])))
            if name in told.flags:
                self.assertEqual(engine.counted(name), {keys_of(match): True for match in told.flags[name]})
            if name in told.counts:
                counted = {}
                for match, key in sorted(told.counts[name], key=lambda pair: (keys_of(pair[0]), pair[1])):
                    counted[keys_of(match)] = counted.get(keys_of(match), ()) + (key,)
                self.assertEqual(list(engine.counted(name).items()), list(counted.items()))

    def is_right(self, told):
        due = plain.results(told.query, told.present())
        is_due = {result: many for result, many in told.output.items() if many} == {result: 1 for result in due}
        return is_due and all(many in (1, -1) for many in told.moves.values())

    def drawn(self):
        """Schemes with histories: drawn steps, and schemes from trees without some of their steps."""
        for seed in range(200):
            rng = rng_of("engine", seed)
            if seed % 2:
                scheme = draw_scheme(rng)
            else:
                scheme = draw_tree_scheme(rng, lambda: draw_query(rng, sides=SIDES[2 + seed // 2 % 6]), spoilt=seed % 3)
            yield scheme, draw_history(seed, scheme, 25, most=(0, 1, 1, 2)[seed % 4])

    def test_drawn_schemes(self):
        words, right, wrong = Counter(), 0, 0
        for scheme, events in self.drawn():
            engine, told = Engine(scheme), plain.PlainEngine(scheme)
            for event in events:
                self.assertEqual(engine(event), engine.news)
                told.do(event)
                self.check(engine, told)
                is_right = self.is_right(told)
                self.assertIs(engine.is_right(), is_right)
                right, wrong = right + is_right, wrong + (not is_right)
                words[event[0]] += 1
                words["moves"] += len(engine.moves)
        self.assertTrue(all(words[word] > 100 for word in ("add", "remove", "switch", "load", "evict", "moves")), words)
        self.assertTrue(min(right, wrong) > 500)

    def test_all_steps_do_something(self):
        """That the drawn histories bring matches to steps of each kind, of each sort of role."""
        seen = Counter()

        class Watched(plain.PlainEngine):
            def step(self, step, word, role, key, found, emitted):
                passed = super().step(step, word, role, key, found, emitted)
                seen[step[0], word, bool(passed)] += bool(found)
                seen[step[0], self.query.roles[role][0]] += bool(found)
                return passed
        for scheme, events in self.drawn():
            engine = Watched(scheme)
            for event in events:
                engine.do(event)
        for action in ("join", "count", "some", "none"):
            for word in ("add", "remove"):
                self.assertGreater(min(seen[action, word, True], seen[action, word, False]), 10, (action, word))
        for action in ("update", "emit"):
            self.assertGreater(min(seen[action, word, True] for word in ("add", "remove")), 100, action)
        self.assertGreater(seen["recount", "add", True], 100)
        for sort in ("some", "none", "optional"):
            self.assertGreater(min(seen["count", sort], seen["update", sort], seen["emit", sort]), 30, sort)

    def test_undone_and_done_again(self):
        for seed in range(80):
            rng = rng_of("undone", seed)
            scheme = draw_scheme(rng)
            engine = Engine(scheme)
            past, future = [plain.PlainEngine(scheme)], []
            events = []
            for _ in range(25):
                word = rng.choice(("event", "event", "undo", "redo", "trial"))
                if word == "event":
                    event = draw_event(rng, scheme, engine.plan, engine.world.rows)
                    engine(event)
                    del events[len(past) - 1:]
                    events.append(event)
                    told = plain.PlainEngine(scheme)
                    for earlier in events:
                        told.do(earlier)
                    past, future = past + [told], []
                elif word == "undo":
                    many = rng.randint(0, len(past) - 1)
                    self.assertEqual(engine.undo(many=many), len(past) - 1 - many)
                    future = past[len(past) - many:] + future
                    past = past[:len(past) - many]
                elif word == "redo":
                    many = rng.randint(0, len(future))
                    self.assertEqual(engine.redo(many=many), len(past) - 1 + many)
                    past, future = past + future[:many], future[many:]
                else:
                    twin = engine.twin()
                    with engine.trial():
                        for _ in range(3):
                            engine(draw_event(rng, scheme, engine.plan, engine.world.rows))
                    self.assertTrue(engine == twin)
                self.check(engine, past[-1])
                self.assertEqual(engine.log, tuple(events[:len(past) - 1]))

    def test_schemes_from_trees_are_right(self):
        """After each event, whatever the tables share; and their stores hold the matches that are there."""
        moves = Counter()
        for seed in range(150):
            rng = rng_of("trees", seed)
            scheme = draw_tree_scheme(rng, lambda: draw_query(rng, most_core=4, sides=SIDES[seed % 8]))
            query = scheme.query
            self.assertTrue(scheme.is_single)
            engine = Engine(scheme)
            for event in draw_history(seed, scheme, 30, most=rng.choice((1, 1, 2))):
                engine(event)
                try:
                    self.assertTrue(engine.is_right(), (seed, engine.log))
                except TooMany:
                    break
                for role, _, many in engine.moves:
                    moves[query.sort_of(role), many] += 1
        for sort in ("core", "some", "none", "optional"):
            self.assertGreater(min(moves[sort, 1], moves[sort, -1]), 10)


if __name__ == "__main__":
    unittest.main()
