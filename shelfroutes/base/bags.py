"""Bags: results of a query with a number each."""

from shelfroutes.base.names import is_integer, is_result
from shelfroutes.errors import InvalidBag, InvalidNumber, InvalidOperation


# The least integer that has too many digits for a number that is passed.
_UNIT = 10 ** 60


class Bag:
    """An integer for each result; finitely many are not 0.

    Sums and products can have more digits than a number that is passed. So that a bag with such numbers can be
    made from integers that are checked like all others, further dicts add to them in units of `_UNIT`, of its
    square, and so on.
    """

    def __init__(self, numbers=None, *higher):
        low = {} if numbers is None else numbers
        if not all([_is_numbers(given) for given in (low, *higher)]):
            raise InvalidBag("not a dict from results to integers")
        self._numbers = _without_zeros(_put_together((low, *higher)))
        self._results = _in_order(self._numbers)

    @classmethod
    def of_results(cls, results):
        """The bag in which each result counts as often as it stands in the tuple."""
        if not isinstance(results, tuple) or not all([is_result(result) for result in results]):
            raise InvalidBag("not a tuple of results")
        numbers = {}
        for result in results:
            numbers[result] = numbers.get(result, 0) + 1
        return cls(numbers)

    def __getitem__(self, at):
        if not is_result(at):
            raise InvalidBag("not a result")
        return self._numbers.get(at, 0)

    def __setitem__(self, at, worth):
        self.put(at, worth)

    def put(self, result, number):
        """Set the number of a result."""
        if not is_result(result):
            raise InvalidBag("not a result")
        if not is_integer(number):
            raise InvalidNumber(number)
        start = _index_for(self._results, result)
        end = start + 1 if result in self._numbers else start
        if number == 0:
            self._results = self._results[:start] + self._results[end:]
            self._numbers.pop(result, None)
        else:
            self._results = self._results[:start] + (result,) + self._results[end:]
            self._numbers[result] = number

    def __contains__(self, x):
        return is_result(x) and x in self._numbers

    def results(self):
        """The results whose numbers are not 0, in their order."""
        return self._results

    def __iter__(self):
        return iter(self._results)

    def __len__(self):
        return len(self._results)

    def pairs(self):
        """The pairs of a result and its number that is not 0, in the order of results."""
        return tuple([(result, self._numbers[result]) for result in self._results])

    @property
    def size(self):
        """The sum of the absolute values of the numbers."""
        return sum([abs(self._numbers[result]) for result in self._results])

    def __str__(self):
        return f"bag of {len(self._results)} results"

    def __add__(self, other):
        return _bag_of(_sums(self._numbers, _numbers_of(other), 1))

    def __sub__(self, other):
        return _bag_of(_sums(self._numbers, _numbers_of(other), -1))

    def __neg__(self):
        return _bag_of(_sums({}, self._numbers, -1))

    def __mul__(self, other):
        if not is_integer(other):
            raise InvalidOperation("a bag is multiplied by integers only")
        return _bag_of(_sums({}, self._numbers, other))

    def __rmul__(self, other):
        return self * other

    def __abs__(self):
        return _bag_of({result: abs(self._numbers[result]) for result in self._numbers})

    def __iadd__(self, other):
        self._numbers = _without_zeros(_sums(self._numbers, _numbers_of(other), 1))
        self._results = _in_order(self._numbers)
        return self

    def __isub__(self, other):
        self._numbers = _without_zeros(_sums(self._numbers, _numbers_of(other), -1))
        self._results = _in_order(self._numbers)
        return self

    def is_within(self, other):
        """Whether no number is greater than in the other bag."""
        differences = _sums(self._numbers, _numbers_of(other), -1)
        return all([differences[result] <= 0 for result in differences])

    def __eq__(self, other):
        return isinstance(other, Bag) and self._numbers == other._numbers


def _is_numbers(value):
    """Whether the value is a dict from results to integers."""
    return isinstance(value, dict) and all([is_result(result) and is_integer(value[result]) for result in value])


def _put_together(parts):
    """For each result the sum of its numbers in the dicts, each in greater units than the one before."""
    sums = {}
    unit = 1
    for part in parts:
        for result in part:
            sums[result] = sums.get(result, 0) + unit * part[result]
        unit = unit * _UNIT
    return sums


def _bag_of(numbers):
    """The bag with these numbers, of whatever many digits."""
    parts = []
    rest = numbers
    while len(rest) > 0:
        part = {}
        left = {}
        for result in rest:
            sign = -1 if rest[result] < 0 else 1
            high, low = divmod(abs(rest[result]), _UNIT)
            part[result] = sign * low
            if high > 0:
                left[result] = sign * high
        parts.append(part)
        rest = left
    return Bag(*parts)


def _without_zeros(numbers):
    return {result: numbers[result] for result in numbers if numbers[result] != 0}


def _numbers_of(value):
    if not isinstance(value, Bag):
        raise InvalidOperation("not a bag")
    return value._numbers


def _sums(numbers, others, many):
    """For each result of the two dicts its first number and `many` times its other one."""
    sums = {}
    for result in numbers:
        sums[result] = numbers[result] + many * others.get(result, 0)
    for result in others:
        if result not in numbers:
            sums[result] = many * others[result]
    return sums


def _place(result):
    """A key for the order of results: keys of rows are at least 1, so 0 puts None ahead of them."""
    return tuple([0 if entry is None else entry for entry in result])


def _in_order(numbers):
    return tuple(sorted(list(numbers), key=_place))


def _index_for(results, result):
    """Where a result stands among results in their order, or would stand."""
    low = 0
    high = len(results)
    while low < high:
        middle = (low + high) // 2
        if _place(results[middle]) < _place(result):
            low = middle + 1
        else:
            high = middle
    return low
