import unittest

from shelfroutes.errors import (InvalidNumber, InvalidPlan, InvalidScheme, InvalidTransition, NothingToUndo, ShelfError,
                                UnknownName)
from shelfroutes.plan.plans import Plan
from shelfroutes.plan.schemes import Draft, Scheme
from tests.draws import rng_of
from tests.shop import FILL, flat_plan, lost, shop, steps, wide_plan
from tests.values import everything, those_not, whole


class Stop(Exception):
    """An error of a block."""


class Interface(unittest.TestCase):
    def test_members_are_defined_in_the_class(self):
        self.assertEqual(Draft.__module__, "shelfroutes.plan.schemes")
        for name in ("__init__", "__setitem__", "__getitem__", "first", "scheme", "put_plan", "put_steps", "put_first",
                     "undo", "group", "grouped"):
            self.assertIn(name, vars(Draft))

    def test_example(self):
        draft = Draft(shop())
        draft.put_steps("flat", "wide", ())
        self.assertEqual([draft.scheme == lost(), draft.undo(), draft.scheme == shop()], [True, 0, True])

    def test_schemes(self):
        for value in those_not(lambda value: isinstance(value, Scheme)):
            with self.assertRaises(InvalidScheme):
                Draft(value)


class Changes(unittest.TestCase):
    def test_plans(self):
        draft = Draft(shop())
        draft["flat"] = wide_plan()
        self.assertEqual(draft.scheme, shop().with_plan("flat", wide_plan()))
        draft.put_plan("late", flat_plan())
        self.assertEqual((draft["flat"], draft["late"], len(draft.scheme)), (wide_plan(), flat_plan(), 3))
        self.assertIsNone(draft.put_plan("flat", flat_plan()))

    def test_steps(self):
        draft = Draft(shop())
        draft["flat", "wide"] = ()
        self.assertEqual(draft.scheme, lost())
        draft.put_steps("flat", "wide", FILL)
        self.assertEqual(draft.scheme, shop())

    def test_first(self):
        draft = Draft(shop())
        self.assertEqual(draft.first, "flat")
        draft.first = "wide"
        self.assertEqual((draft.first, draft.scheme), ("wide", shop(first="wide")))
        draft.put_first("flat")
        self.assertEqual(draft.scheme, shop())

    def test_read(self):
        draft = Draft(shop())
        self.assertEqual(draft["wide"], wide_plan())
        for value in everything() + [("flat", "wide")]:
            with self.assertRaises(UnknownName) as caught:
                draft[value]
            self.assertIs(caught.exception.name, value)
        with self.assertRaises(TypeError):
            list(draft)

    def test_wrong_values_change_nothing(self):
        draft = Draft(shop())
        draft.put_first("wide")
        for value in everything():
            for wrong in (("flat", value), (value, flat_plan()), (value, value)):
                if isinstance(wrong[0], str) and wrong[0].isalpha() and 1 <= len(wrong[0]) <= 8 and wrong[0].islower():
                    if isinstance(wrong[1], Plan):
                        continue
                with self.assertRaises(InvalidPlan):
                    draft.put_plan(*wrong)
                if not (isinstance(wrong[0], tuple) and len(wrong[0]) == 2):
                    with self.assertRaises(InvalidPlan):
                        draft[wrong[0]] = wrong[1]
            for wrong in ((value, "wide"), ("flat", value), (value, value)):
                with self.assertRaises(InvalidTransition):
                    draft.put_steps(*wrong, FILL)
                with self.assertRaises(InvalidTransition):
                    draft[wrong] = ()
            if value not in ((), (("clear", "sco"),)):
                with self.assertRaises(InvalidTransition):
                    draft["flat", "wide"] = value
            with self.assertRaises(UnknownName):
                draft.put_first(value)
            with self.assertRaises(UnknownName):
                draft.first = value
        self.assertEqual((draft.scheme, draft.undo()), (shop(first="wide"), 0))

    def test_the_scheme_does_not_change(self):
        draft = Draft(shop())
        before = draft.scheme
        draft.put_first("wide")
        self.assertEqual(before, shop())


class Undo(unittest.TestCase):
    def drafted(self):
        draft = Draft(shop())
        draft.put_first("wide")
        draft["wide", "flat"] = FILL
        draft["flat"] = wide_plan()
        return draft

    def test_many(self):
        states = [shop(), shop(first="wide")]
        states.append(states[-1].with_steps("wide", "flat", FILL))
        states.append(states[-1].with_plan("flat", wide_plan()))
        for many in range(4):
            draft = self.drafted()
            self.assertEqual(draft.undo(many=many), 3 - many)
            self.assertEqual(draft.scheme, states[3 - many])
        draft = self.drafted()
        self.assertEqual([draft.undo(), draft.undo(), draft.undo(), draft.undo(many=0)], [2, 1, 0, 0])

    def test_wrong_numbers(self):
        draft = self.drafted()
        for value in those_not(lambda value: whole(value) and value >= 0):
            with self.assertRaises(InvalidNumber) as caught:
                draft.undo(many=value)
            self.assertIs(caught.exception.value, value)
        for many in (4, 5, 10 ** 60 - 1):
            with self.assertRaises(NothingToUndo) as caught:
                draft.undo(many=many)
            self.assertEqual(caught.exception.many, many)
        with self.assertRaises(TypeError):
            draft.undo(1)
        self.assertEqual(draft.undo(), 2)

    def test_equal_schemes_are_changes(self):
        draft = Draft(shop())
        for _ in range(3):
            draft.put_first("flat")
        draft["flat"] = flat_plan()
        self.assertEqual((draft.scheme, draft.undo(many=2)), (shop(), 2))

    def test_changes_after_undo(self):
        draft = self.drafted()
        draft.undo(many=2)
        draft.put_first("flat")
        self.assertEqual((draft.scheme, draft.undo(many=2)), (shop(), 0))

    def test_very_many_changes(self):
        draft = Draft(shop())
        for _ in range(3000):
            draft.put_first("wide")
        self.assertEqual(draft.undo(many=2999), 1)


class Groups(unittest.TestCase):
    def test_a_block_counts_as_one(self):
        draft = Draft(shop())
        draft.put_first("wide")
        with draft.group():
            draft["flat", "wide"] = ()
            draft["flat"] = wide_plan()
        self.assertEqual(draft.undo(many=0), 2)
        self.assertEqual((draft.undo(), draft.scheme), (1, shop(first="wide")))

    def test_a_block_without_a_change_counts_as_none(self):
        draft = Draft(shop())
        with draft.group():
            pass
        self.assertEqual(draft.undo(many=0), 0)
        with draft.group():
            draft.put_first("wide")
            draft.put_first("flat")
            self.assertEqual(draft.undo(many=2), 0)
        self.assertEqual((draft.undo(many=0), draft.scheme), (0, shop()))
        with draft.group():
            draft.put_first("flat")
        self.assertEqual(draft.undo(many=0), 1)

    def test_undo_inside(self):
        draft = Draft(shop())
        draft.put_first("wide")
        with draft.group():
            self.assertEqual(draft.undo(many=0), 0)
            with self.assertRaises(NothingToUndo):
                draft.undo()
            draft["flat", "wide"] = ()
            draft["flat", "wide"] = FILL
            with self.assertRaises(NothingToUndo) as caught:
                draft.undo(many=3)
            self.assertEqual(caught.exception.many, 3)
            self.assertEqual((draft.undo(), draft.scheme), (1, lost().with_first("wide")))
        self.assertEqual(draft.undo(many=0), 2)
        self.assertEqual((draft.undo(), draft.scheme), (1, shop(first="wide")))

    def test_errors_take_back(self):
        draft = Draft(shop())
        draft.put_first("wide")
        for error in (Stop, InvalidPlan, KeyboardInterrupt):
            with self.assertRaises(error) as caught:
                with draft.group():
                    draft["flat", "wide"] = ()
                    draft["flat"] = wide_plan()
                    raise error("why")
            self.assertEqual(str(caught.exception), "why")
            self.assertEqual((draft.scheme, draft.undo(many=0)), (shop(first="wide"), 1))
        with self.assertRaises(InvalidPlan):
            with draft.group():
                draft.put_first("flat")
                draft["flat"] = None
        self.assertEqual((draft.scheme, draft.undo(), draft.scheme), (shop(first="wide"), 0, shop()))

    def test_blocks_inside_blocks(self):
        draft = Draft(shop())
        with draft.group():
            draft.put_first("wide")
            with draft.group():
                draft["flat", "wide"] = ()
                draft["wide", "flat"] = FILL
                self.assertEqual(draft.undo(many=0), 2)
            self.assertEqual(draft.undo(many=0), 2)
            with self.assertRaises(Stop):
                with draft.group():
                    draft.put_first("flat")
                    with draft.group():
                        draft["flat"] = wide_plan()
                    raise Stop
            with draft.group():
                with draft.group():
                    pass
            self.assertEqual(draft.undo(many=0), 2)
            self.assertEqual(draft.scheme, lost().with_steps("wide", "flat", FILL).with_first("wide"))
            self.assertEqual((draft.undo(), draft.scheme), (1, shop(first="wide")))
            with draft.group():
                draft["flat"] = wide_plan()
        self.assertEqual((draft.undo(many=0), draft["flat"]), (1, wide_plan()))
        self.assertEqual((draft.undo(), draft.scheme), (0, shop()))

    def test_an_error_of_the_outer_block_takes_back_all(self):
        draft = Draft(shop())
        with self.assertRaises(Stop):
            with draft.group():
                with draft.group():
                    draft.put_first("wide")
                draft["flat"] = wide_plan()
                raise Stop
        self.assertEqual((draft.scheme, draft.undo(many=0)), (shop(), 0))

    def test_a_block_that_is_left_early(self):
        draft = Draft(shop())
        for _ in range(2):
            with draft.group():
                draft.put_first("wide")
                draft.put_first("flat")
                break

        def left():
            with draft.group():
                draft.put_first("wide")
                draft.put_first("wide")
                return 5
        self.assertEqual((left(), draft.undo(many=0)), (5, 2))

    def test_grouped(self):
        draft = Draft(shop())

        def change(told):
            self.assertIs(told, draft)
            told.put_first("wide")
            told["flat", "wide"] = ()
            return [1, 2]
        self.assertEqual(draft.grouped(change), [1, 2])
        self.assertEqual((draft.undo(many=0), draft.first), (1, "wide"))
        self.assertIsNone(draft.grouped(lambda told: None))

        def fail(told):
            told.put_first("flat")
            raise Stop("why")
        with self.assertRaises(Stop):
            draft.grouped(fail)
        self.assertEqual((draft.undo(many=0), draft.first), (1, "wide"))
        self.assertEqual(draft.grouped(lambda told: told.grouped(change)), [1, 2])
        self.assertEqual((draft.undo(), draft.undo(), draft.scheme), (1, 0, shop()))

    def test_drawn_blocks(self):
        """Against lists of schemes, one for each open block."""
        for seed in range(60):
            rng = rng_of("blocks", seed)
            draft = Draft(shop())
            self.block(rng, draft, [shop()], 0)

    def block(self, rng, draft, past, depth):
        """Change a draft; `past` ends with the scheme as it is."""
        for _ in range(rng.randint(0, 5)):
            word = rng.choice(("first", "steps", "undo", "group", "fail", "wrong"))
            if word == "first":
                draft.first = rng.choice(("flat", "wide"))
                past.append(draft.scheme)
            elif word == "steps":
                draft["flat", "wide"] = rng.choice((FILL, (), steps("clear sc")))
                past.append(draft.scheme)
            elif word == "undo" and len(past) > 1:
                many = rng.randint(0, len(past) - 1)
                self.assertEqual(draft.undo(many=many), len(past) - 1 - many)
                del past[len(past) - many:]
            elif word == "group" and depth < 4:
                inner = [draft.scheme]
                with draft.group():
                    self.block(rng, draft, inner, depth + 1)
                if len(inner) > 1:
                    past.append(inner[-1])
            elif word == "fail" and depth < 4:
                try:
                    with draft.group():
                        self.block(rng, draft, [draft.scheme], depth + 1)
                        raise Stop
                except Stop:
                    pass
            else:
                with self.assertRaises(ShelfError):
                    draft["flat"] = 5
            self.assertEqual((draft.scheme, draft.undo(many=0)), (past[-1], len(past) - 1))


if __name__ == "__main__":
    unittest.main()
