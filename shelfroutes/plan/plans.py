"""Plans: which pipelines the rows go through that arrive or leave."""

from shelfroutes.base.names import is_name, is_tuple
from shelfroutes.errors import InvalidOperation, InvalidPlan
from shelfroutes.plan.steps import WORDS, is_pipeline

MAX_PIPELINES = 4
MAX_ROLES = 6


class Plan:
    """A tuple of pipelines for each pair of a word and a role; it never changes."""

    def __init__(self, pipelines=None):
        given = {} if pipelines is None else pipelines
        if not _is_plan(given):
            raise InvalidPlan("not a dict from pairs to tuples of at most four pipelines, for at most six roles")
        self._by_pair = {pair: given[pair] for pair in sorted(given) if given[pair] != ()}
        self._pairs = tuple(list(self._by_pair))
        self._all = [pipeline for pair in self._pairs for pipeline in self._by_pair[pair]]

    @classmethod
    def both_ways(cls, pipelines):
        """The plan with these pipelines for arrivals, and without recounts for removals."""
        if not isinstance(pipelines, dict) or not all([_are_pipelines(pipelines[role]) for role in pipelines]):
            raise InvalidPlan("not a dict from names of roles to tuples of at most four pipelines")
        given = {("add", role): pipelines[role] for role in pipelines}
        removals = {("remove", role): _without_recounts(pipelines[role]) for role in pipelines}
        return cls({**given, **removals})

    def __getitem__(self, at):
        if not _is_pair(at):
            raise InvalidOperation("not a pair of add or remove and a name")
        return self._by_pair.get(at, ())

    def __contains__(self, x):
        return _is_pair(x) and x in self._by_pair

    def pairs(self):
        """The ascending tuple of the pairs that are not missing."""
        return self._pairs

    def __iter__(self):
        return iter(self._pairs)

    def __len__(self):
        return len(self._all)

    def __eq__(self, other):
        return isinstance(other, Plan) and self._by_pair == other._by_pair

    def __str__(self):
        return f"plan of {len(self._all)} pipelines"

    @property
    def arrivals(self):
        """The plan of the pairs with "add"."""
        return Plan({pair: self._by_pair[pair] for pair in self._pairs if pair[0] == "add"})

    @property
    def removals(self):
        """The plan of the pairs with "remove"."""
        return Plan({pair: self._by_pair[pair] for pair in self._pairs if pair[0] == "remove"})

    def __or__(self, other):
        _check_plan(other)
        both = {pair: self[pair] + _those_in(other[pair], self[pair], False) for pair in self._pairs + other._pairs}
        if not _is_plan(both):
            raise InvalidOperation("what results is no plan")
        return Plan(both)

    def __and__(self, other):
        _check_plan(other)
        return Plan({pair: _those_in(self[pair], other[pair], True) for pair in self._pairs})

    def __sub__(self, other):
        _check_plan(other)
        return Plan({pair: _those_in(self[pair], other[pair], False) for pair in self._pairs})

    def is_within(self, other):
        """Whether the other plan has each pipeline, for the same pair."""
        _check_plan(other)
        return all([pipeline in other[pair] for pair in self._pairs for pipeline in self[pair]])

    def replaced(self, word, role, pipelines):
        """The plan with this tuple of pipelines for this pair."""
        if not _is_pair((word, role)):
            raise InvalidOperation("not a pair of add or remove and a name")
        return Plan({**self._by_pair, (word, role): pipelines})

    def names(self):
        """The ascending tuple of the stores and counters in the steps."""
        return tuple(sorted(set([name for pipeline in self._all for step in pipeline for name in step[1:]])))


def _is_plan(value):
    """Whether the value is a dict of which a plan can be made."""
    if not isinstance(value, dict) or not all([_is_pair(pair) and _are_pipelines(value[pair]) for pair in value]):
        return False
    return len(set([pair[1] for pair in value if value[pair] != ()])) <= MAX_ROLES


def _is_pair(value):
    return is_tuple(value, 2, 2) and value[0] in WORDS and is_name(value[1])


def _are_pipelines(value):
    return is_tuple(value, 0, MAX_PIPELINES) and all([is_pipeline(pipeline) for pipeline in value])


def _check_plan(value):
    if not isinstance(value, Plan):
        raise InvalidOperation("not a plan")


def _those_in(pipelines, others, are_wanted):
    """The pipelines that are among others, or those that are not."""
    return tuple([pipeline for pipeline in pipelines if (pipeline in others) == are_wanted])


def _without_recounts(pipelines):
    """The same pipelines without recounts, as far as steps are left."""
    rests = [tuple([step for step in pipeline if step[0] != "recount"]) for pipeline in pipelines]
    return tuple([rest for rest in rests if rest != ()])
