import itertools
import unittest

import shelfroutes.base.bags as bags
from shelfroutes.base.bags import Bag
from shelfroutes.base.names import is_result
from shelfroutes.errors import InvalidBag, InvalidNumber, InvalidOperation
from tests.values import LONGEST, TOO_LONG, everything, those_not, whole


def sample_numbers():
    return {(2,): 4, (1, 3): 2, (1, None): 1, (1,): -3, (7, 8): 0}


def is_told_numbers(value):
    if value is None:
        return True
    return isinstance(value, dict) and all(is_result(key) and whole(value[key]) for key in value)


def is_hashable(value):
    try:
        hash(value)
    except TypeError:
        return False
    return True


class Made(unittest.TestCase):
    def test_members_are_defined_in_the_class(self):
        self.assertEqual(Bag.__module__, "shelfroutes.base.bags")
        for name in ("of_results", "put", "results", "pairs", "size", "is_within", "__init__", "__getitem__",
                     "__setitem__", "__contains__", "__iter__", "__len__", "__str__", "__add__", "__sub__", "__neg__",
                     "__mul__", "__rmul__", "__abs__", "__iadd__", "__isub__", "__eq__"):
            self.assertIn(name, vars(Bag))

    def test_empty(self):
        for bag in (Bag(), Bag(None), Bag({}), Bag({(1,): 0}), Bag(numbers=None), Bag.of_results(())):
            self.assertEqual((bag.results(), bag.pairs(), len(bag), bag.size, list(bag)), ((), (), 0, 0, []))

    def test_numbers(self):
        bag = Bag(numbers=sample_numbers())
        self.assertEqual(bag.pairs(), (((1,), -3), ((1, None), 1), ((1, 3), 2), ((2,), 4)))
        self.assertEqual([bag[1, 3], bag[(1,)], bag[7, 8], bag[9, 9], bag[1, None]], [2, -3, 0, 0, 1])

    def test_sixty_digits(self):
        bag = Bag({(LONGEST,): LONGEST, (1,): -LONGEST})
        self.assertEqual(bag.pairs(), (((1,), -LONGEST), ((LONGEST,), LONGEST)))
        for number in (TOO_LONG, -TOO_LONG):
            with self.assertRaises(InvalidBag):
                Bag({(1,): number})
        with self.assertRaises(InvalidBag):
            Bag({(TOO_LONG,): 1})

    def test_invalid_numbers(self):
        for value in those_not(is_told_numbers):
            with self.assertRaises(InvalidBag):
                Bag(value)

    def test_objects_of_the_module_are_no_numbers(self):
        for kind in vars(bags).values():
            if isinstance(kind, type) and kind.__module__ == bags.__name__:
                with self.assertRaises(InvalidBag):
                    Bag(kind.__new__(kind))
                with self.assertRaises(InvalidBag):
                    Bag({}, kind.__new__(kind))

    def test_one_invalid_entry(self):
        for key in those_not(is_result):
            if is_hashable(key):
                with self.assertRaises(InvalidBag):
                    Bag({(5, 5): 1, key: 1})
        for number in those_not(whole):
            with self.assertRaises(InvalidBag):
                Bag({(1,): 1, (2, 3): number})
            with self.assertRaises(InvalidBag):
                Bag({(0,): number})

    def test_of_results(self):
        bag = Bag.of_results(((1, 3), (1, None), (1, 3), (2,)))
        self.assertEqual(bag.pairs(), (((1, None), 1), ((1, 3), 2), ((2,), 1)))
        self.assertEqual(bag.of_results(((5,),)), Bag({(5,): 1}))
        self.assertIs(type(bag), Bag)

    def test_of_results_invalid(self):
        valid = lambda value: isinstance(value, tuple) and all(is_result(part) for part in value)
        for value in those_not(valid):
            with self.assertRaises(InvalidBag):
                Bag.of_results(value)
        for value in those_not(is_result):
            with self.assertRaises(InvalidBag):
                Bag.of_results(((1,), value))
            with self.assertRaises(InvalidBag):
                Bag.of_results((value, (1,)))
        for value in ([(1,)], {(1,): 1}, None):
            with self.assertRaises(InvalidBag):
                Bag.of_results(value)

    def test_what_is_passed_can_be_changed(self):
        numbers = sample_numbers()
        bag = Bag(numbers)
        numbers[1, 3] = 9
        numbers[5, 5] = 1
        del numbers[(2,)]
        self.assertEqual(bag, Bag(sample_numbers()))
        bag.put((6,), 1)
        self.assertNotIn((6,), numbers)


class Read(unittest.TestCase):
    def test_getitem_invalid(self):
        bag = Bag(sample_numbers())
        for value in those_not(is_result):
            with self.assertRaises(InvalidBag):
                bag[value]
        with self.assertRaises(InvalidBag):
            bag[0, 1]
        with self.assertRaises(InvalidBag):
            bag[1]

    def test_in(self):
        bag = Bag(sample_numbers())
        for value in everything():
            self.assertIs(value in bag, is_result(value) and bag[value] != 0, value)
        self.assertTrue((1, 3) in bag and (1,) in bag and (1, None) in bag)
        self.assertFalse((7, 8) in bag or (3, 1) in bag)
        self.assertFalse((True, 3) in bag or (True,) in bag or [1, 3] in bag)

    def test_order_of_results(self):
        results = [key for many in range(1, 4) for key in itertools.product((1, 2, 10), repeat=many)]
        results += [key + (None,) for key in results]
        given = Bag({key: 1 for key in reversed(results)}).results()
        told = sorted(results, key=lambda key: [-1 if entry is None else entry for entry in key])
        self.assertEqual(given, tuple(told))
        self.assertLess(given.index((1, None)), given.index((1, 1)))
        self.assertLess(given.index((1,)), given.index((1, None)))
        self.assertLess(given.index((1, 10, 10)), given.index((2,)))

    def test_results_pairs_iteration_and_size(self):
        bag = Bag(sample_numbers())
        self.assertEqual(bag.results(), ((1,), (1, None), (1, 3), (2,)))
        self.assertIsInstance(bag.results(), tuple)
        self.assertIsInstance(bag.pairs(), tuple)
        self.assertEqual(list(bag), list(bag.results()))
        self.assertEqual(dict(bag.pairs()), {key: bag[key] for key in bag})
        self.assertEqual((len(bag), bag.size), (4, 10))

    def test_iteration_goes_on_while_the_bag_changes(self):
        bag = Bag(sample_numbers())
        seen = []
        for result in bag:
            seen.append(result)
            bag[result] = 0
        self.assertEqual((len(seen), len(bag)), (4, 0))

    def test_text(self):
        for many in (0, 1, 2, 11):
            bag = Bag({(key + 1,): -2 for key in range(many)})
            self.assertEqual(str(bag), "bag of %d results" % many)

    def test_equality(self):
        bag = Bag(sample_numbers())
        same = Bag({(1, 3): 2, (2,): 4, (1,): -3, (1, None): 1})
        self.assertTrue(bag == same)
        self.assertFalse(bag != same)
        for other in (Bag(), Bag({(1, 3): 2}), same + Bag({(2,): 1}), same + Bag({(3,): 1}), -same):
            self.assertFalse(bag == other)
            self.assertTrue(bag != other)
        for value in everything() + [sample_numbers(), bag.pairs()]:
            self.assertIs(bag == value, False)
            self.assertIs(bag != value, True)
        self.assertTrue(Bag() == Bag({(5,): 0}))


class Changed(unittest.TestCase):
    def test_put_and_setitem(self):
        def by_sign(bag, result, number):
            bag[result] = number
        for put in (Bag.put, by_sign):
            bag = Bag(sample_numbers())
            put(bag, (1, 3), 5)
            put(bag, (1, 2), -1)
            put(bag, (1,), 0)
            put(bag, (9, 9), 0)
            put(bag, (1, None), LONGEST)
            put(bag, (1, 2, 3, 4, None), 1)
            self.assertEqual(bag.pairs(), (((1, None), LONGEST), ((1, 2), -1), ((1, 2, 3, 4, None), 1),
                                           ((1, 3), 5), ((2,), 4)))
            self.assertNotIn((1,), bag)
            self.assertEqual((len(bag), bag[(1,)]), (5, 0))
        self.assertIsNone(Bag().put((1,), 1))

    def test_put_keeps_the_order(self):
        results = [(3,), (1, 1), (2, None), (1,), (2, 2), (2,), (1, None), (3, 1)]
        bag = Bag()
        for at, result in enumerate(results):
            bag.put(result, 1)
            self.assertEqual(bag.results(), Bag.of_results(tuple(results[:at + 1])).results())
        for at, result in enumerate(results):
            bag[result] = 0
            self.assertEqual(bag, Bag.of_results(tuple(results[at + 1:])))
            self.assertEqual(bag.results(), Bag.of_results(tuple(results[at + 1:])).results())

    def test_put_invalid(self):
        bag = Bag(sample_numbers())
        for value in those_not(is_result):
            for number in (1, None):
                with self.assertRaises(InvalidBag):
                    bag.put(value, number)
                with self.assertRaises(InvalidBag):
                    bag[value] = number
        for value in those_not(whole):
            with self.assertRaises(InvalidNumber) as caught:
                bag.put((1, 3), value)
            self.assertIs(caught.exception.value, value)
            with self.assertRaises(InvalidNumber) as caught:
                bag[4, 4] = value
            self.assertIs(caught.exception.value, value)
        self.assertEqual(bag, Bag(sample_numbers()))
        self.assertEqual(bag.results(), Bag(sample_numbers()).results())


class Computed(unittest.TestCase):
    def setUp(self):
        self.one = Bag({(1,): 2, (2,): -3, (3, None): 1})
        self.other = Bag({(1,): 5, (2,): 3, (3, 1): -1})

    def unchanged(self):
        self.assertEqual(self.one, Bag({(1,): 2, (2,): -3, (3, None): 1}))
        self.assertEqual(self.other, Bag({(1,): 5, (2,): 3, (3, 1): -1}))

    def test_sum(self):
        total = self.one + self.other
        self.assertEqual(total.pairs(), (((1,), 7), ((3, None), 1), ((3, 1), -1)))
        self.assertEqual((len(total), (2,) in total), (3, False))
        self.unchanged()

    def test_difference(self):
        rest = self.one - self.other
        self.assertEqual(rest.pairs(), (((1,), -3), ((2,), -6), ((3, None), 1), ((3, 1), 1)))
        self.assertEqual(self.one - self.one, Bag())
        self.unchanged()

    def test_negative_and_absolute(self):
        self.assertEqual((-self.one).pairs(), (((1,), -2), ((2,), 3), ((3, None), -1)))
        self.assertEqual(abs(self.one).pairs(), (((1,), 2), ((2,), 3), ((3, None), 1)))
        self.unchanged()

    def test_product(self):
        for many in (0, 1, -1, 3, LONGEST, -LONGEST):
            told = tuple((key, many * number) for key, number in self.one.pairs() if many)
            self.assertEqual((many * self.one).pairs(), told)
            self.assertEqual((self.one * many).pairs(), told)
        self.unchanged()

    def test_numbers_that_are_computed_can_have_more_digits(self):
        bag = Bag({(1,): LONGEST, (2,): -LONGEST})
        self.assertEqual((bag + bag).pairs(), (((1,), 2 * LONGEST), ((2,), -2 * LONGEST)))
        self.assertEqual((LONGEST * bag)[(1,)], LONGEST ** 2)
        self.assertEqual((bag - -bag).size, 4 * LONGEST)
        self.assertEqual(abs(-(bag + bag))[(2,)], 2 * LONGEST)
        bag += bag
        bag -= -bag
        self.assertEqual(bag[(2,)], -4 * LONGEST)
        self.assertTrue(bag.is_within(bag) and bag == bag * 1)

    def test_numbers_of_several_dicts(self):
        """A bag takes no number of more than sixty digits, but dicts of higher digits, each of them checked."""
        bag = Bag({(1,): 5, (2,): LONGEST}, {(1,): -1, (3,): 2}, {(3,): 7})
        self.assertEqual(bag.pairs(), (((1,), 5 - TOO_LONG), ((2,), LONGEST), ((3,), 2 * TOO_LONG + 7 * TOO_LONG ** 2)))
        self.assertEqual(Bag({(1,): 0}, {}, {}), Bag())
        for value in those_not(lambda value: value is not None and is_told_numbers(value)):
            for parts in (({}, value), ({}, {}, value), ({}, value, {}), (None, value)):
                with self.assertRaises(InvalidBag):
                    Bag(*parts)

    def test_digits_are_kept_by_all_operators(self):
        numbers = [0, 1, -1, LONGEST, -LONGEST, 1 - TOO_LONG]
        small = [Bag({(1,): one, (2,): other}) for one in numbers for other in numbers]
        drawn = small + [LONGEST * bag for bag in small] + [LONGEST * (LONGEST * bag) for bag in small]
        for at, bag in enumerate(drawn):
            other = drawn[at * 7 % len(drawn)]
            for made, told in ((bag + other, lambda one, two: one + two), (bag - other, lambda one, two: one - two),
                               (-bag, lambda one, two: -one), (abs(bag), lambda one, two: abs(one)),
                               (-3 * bag, lambda one, two: -3 * one)):
                for result in ((1,), (2,)):
                    self.assertEqual(made[result], told(bag[result], other[result]))

    def test_new_bags_are_independent(self):
        for made in (self.one + Bag(), Bag() + self.one, self.one - Bag(), self.one * 1, 1 * self.one, -self.one,
                     abs(self.one)):
            self.assertIs(type(made), Bag)
            made.put((1,), 77)
            made[9, 9] = 1
            self.unchanged()

    def test_in_place(self):
        bag = Bag({(1,): 2, (2,): -3, (3, None): 1})
        same = bag
        bag += self.other
        self.assertIs(bag, same)
        self.assertEqual(same, self.one + self.other)
        self.assertEqual(same.results(), ((1,), (3, None), (3, 1)))
        bag -= self.other
        self.assertIs(bag, same)
        self.assertEqual(same, self.one)
        self.assertEqual(same.results(), ((1,), (2,), (3, None)))
        self.unchanged()

    def test_in_place_with_itself(self):
        bag = 1 * self.one
        bag += bag
        self.assertEqual(bag, 2 * self.one)
        bag -= bag
        self.assertEqual((bag.pairs(), len(bag)), ((), 0))

    def test_in_place_takes_a_copy(self):
        bag = Bag()
        bag += self.one
        bag[1, 1] = 4
        self.unchanged()
        self.one[5, 5] = 1
        self.assertNotIn((5, 5), bag)

    def test_is_within(self):
        self.assertIs(self.one.is_within(self.other), False)
        self.assertIs(Bag({(1,): 2, (2,): -3}).is_within(Bag({(1,): 2})), True)
        self.assertIs(Bag().is_within(Bag({(1,): 1})), True)
        self.assertIs(Bag().is_within(Bag({(1,): -1})), False)
        self.assertIs(Bag({(1,): 1}).is_within(Bag()), False)
        self.assertIs(Bag({(1,): -1}).is_within(Bag()), True)
        self.assertIs(Bag({(1,): 3, (2,): 1}).is_within(Bag({(1,): 4, (2,): 0})), False)
        self.assertIs(self.one.is_within(self.one), True)
        self.assertIs(Bag().is_within(Bag()), True)

    def test_invalid_other_bags(self):
        for value in those_not(lambda value: isinstance(value, Bag)):
            bag = 1 * self.one
            with self.assertRaises(InvalidOperation):
                bag + value
            with self.assertRaises(InvalidOperation):
                bag - value
            with self.assertRaises(InvalidOperation):
                bag.is_within(value)
            with self.assertRaises(InvalidOperation):
                bag += value
            with self.assertRaises(InvalidOperation):
                bag -= value
            self.assertEqual(bag, self.one)
        self.unchanged()

    def test_invalid_factors(self):
        for value in those_not(whole):
            with self.assertRaises(InvalidOperation):
                self.one * value
            with self.assertRaises(InvalidOperation):
                value * self.one
        self.unchanged()

    def test_example(self):
        bag = Bag.of_results(((1, 3), (1, None), (1, 3)))
        self.assertEqual(
            [bag.pairs(), bag[1, 3], bag.size, (bag - 3 * Bag({(1, 3): 1})).pairs(), (-bag).is_within(bag)],
            [(((1, None), 1), ((1, 3), 2)), 2, 3, (((1, None), 1), ((1, 3), -1)), True])


if __name__ == "__main__":
    unittest.main()
