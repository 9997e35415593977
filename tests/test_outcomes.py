"""What events do at snapshots, kept and taken over from a scheme that differs in one step."""

import unittest
from collections import Counter
from unittest import mock

from shelfroutes.check import outcomes as outcomes_module
from shelfroutes.check.frames import Frame
from shelfroutes.check.outcomes import ChangedOutcomes, KeptOutcomes, Outcomes
from shelfroutes.check.snapshots import events_at, is_right, snapshot_after
from shelfroutes.errors import InvalidPlan
from shelfroutes.make.lean import places, without_step
from tests.draws import SIDES, draw_query, draw_scheme, rng_of
from tests.dressed import draw_dressed
from tests.test_invariants import draw_path


def told_outcomes(scheme, snapshot):
    return [(event, is_right(scheme, snapshot, event), snapshot_after(scheme, snapshot, event))
            for event in events_at(scheme, snapshot)]


class Compared(unittest.TestCase):
    def test_drawn_schemes(self):
        seen = Counter()
        for seed in range(90):
            rng = rng_of("outcomes", seed)
            query = draw_query(rng, most_core=3, sides=SIDES[seed % 8])
            scheme = draw_scheme(rng, query) if seed % 3 == 0 else draw_dressed(rng, lambda: query, spoilt=seed % 2)
            frame = Frame(scheme)
            kept = KeptOutcomes(frame)
            for place in rng.sample(places(scheme), min(5, len(places(scheme)))):
                try:
                    rest = without_step(scheme, place)
                except InvalidPlan:
                    continue
                change = place[:4] if place[0] == "plan" else place[:3]
                changed = ChangedOutcomes(Frame(rest), kept, change)
                for snapshot in draw_path(rng, rest, 8)[1]:
                    told = told_outcomes(rest, snapshot)
                    self.assertEqual(changed.outcomes_at(snapshot), told)
                    self.assertEqual(kept.outcomes_at(snapshot), told_outcomes(scheme, snapshot))
                    self.assertEqual(Outcomes(frame).outcomes_at(snapshot), kept.outcomes_at(snapshot))
                    seen[place[0], told == kept.outcomes_at(snapshot)] += 1
        self.assertTrue(min(seen["plan", True], seen["plan", False], seen["switch", False], seen["switch", True]) > 4, seen)

    def test_only_some_are_kept(self):
        rng = rng_of("kept")
        scheme = draw_dressed(rng, lambda: draw_query(rng, sides=("some",)))
        with mock.patch.object(outcomes_module, "_MAX_KEPT", 3):
            kept = KeptOutcomes(Frame(scheme))
            for snapshot in draw_path(rng, scheme, 12)[1] * 2:
                self.assertEqual(kept.outcomes_at(snapshot), told_outcomes(scheme, snapshot))


if __name__ == "__main__":
    unittest.main()
