"""Steps of pipelines and of transitions: their forms, and where they are right."""

from shelfroutes.base.names import is_name, is_tuple
from shelfroutes.errors import InvalidOperation, InvalidQuery, InvalidStep, InvalidStore, UnknownName
from shelfroutes.plan.stores import are_stores, is_store, make_up
from shelfroutes.query.queries import Query

MAX_STEPS = 12
WORDS = ("add", "remove")
# How many names follow the word of a step, in a pipeline and in a transition.
_NAMES_OF_STEPS = {"count": 1, "emit": 0, "join": 1, "none": 1, "recount": 2, "some": 1, "update": 1}
_NAMES_OF_CHANGES = {"append": 3, "clear": 1, "fill": 3, "recount": 3, "reset": 1}
_CHOOSING = ("count", "none", "some")
_BEHIND_CHOOSING = ("emit", "join", "none", "some")


def is_step(value):
    """Whether the value has the form of a step of a pipeline."""
    return _is_word_and_names(value) and len(value) - 1 == _NAMES_OF_STEPS.get(value[0])


def is_change(value):
    """Whether the value has the form of a step of a transition."""
    return _is_word_and_names(value) and len(value) - 1 == _NAMES_OF_CHANGES.get(value[0])


def is_pipeline(value):
    """Whether the value has the form of a pipeline."""
    if not is_tuple(value, 1, MAX_STEPS) or not all([is_step(step) for step in value]):
        return False
    has_chosen = False
    for at, step in enumerate(value):
        if step[0] == "emit" and at < len(value) - 1:
            return False
        if has_chosen and step[0] not in _BEHIND_CHOOSING:
            return False
        has_chosen = has_chosen or step[0] in _CHOOSING
    return True


def is_transition(value):
    """Whether the value has the form of a transition."""
    if not is_tuple(value, 0, MAX_STEPS) or not all([is_change(step) for step in value]):
        return False
    return len(set([step[1] for step in value])) == len(value)


def is_stores(query, value):
    """Whether the value is a dict from at most twelve names to stores and counters of the query."""
    _check_query(query)
    return are_stores(query, value)


def roles_along(query, stores, word, role, pipeline):
    """Yield the roles of the matches before the first step of a pipeline, and after each step."""
    _check_pair(query, stores, word, role)
    if not is_pipeline(pipeline):
        raise InvalidStep("not of the form of a pipeline")
    roles = (role,)
    yield roles
    for step in pipeline:
        roles = _roles_behind(query, stores, (word, role), roles, step)
        if roles is None:
            raise InvalidStep("a step is not right for these stores")
        yield roles


def is_pipeline_for(query, stores, word, role, value):
    """Whether the value is a pipeline for this pair all steps of which are right."""
    _check_pair(query, stores, word, role)
    return is_pipeline(value) and last_roles(query, stores, (word, role), value) is not None


def is_transition_for(query, stores, value):
    """Whether the value is a transition all steps of which are right."""
    _check_query(query)
    _check_stores(query, stores)
    return is_transition_of(query, stores, value)


def is_transition_of(query, stores, value):
    """Whether the value is a transition all steps of which are right for stores that were checked."""
    return is_transition(value) and all([_is_right_change(query, stores, step) for step in value])


def last_roles(query, stores, pair, pipeline):
    """The roles of the matches behind the last step of a pipeline, or None if a step is not right."""
    roles = (pair[1],)
    for step in pipeline:
        roles = _roles_behind(query, stores, pair, roles, step)
        if roles is None:
            return None
    return roles


def sign_of(query, word, role, *, optional=False):
    """1 if an emit step for this pair emits, -1 if it retracts."""
    _check_query(query)
    _check_word_and_role(query, word, role)
    if not isinstance(optional, bool) or (optional and query.optional is None):
        raise InvalidOperation("not a boolean, or there is no optional role")
    return sign_for(query.sort_of(role), word, optional)


def sign_for(sort, word, has_optional):
    """1 if an emit step for a word and a role of this sort emits, -1 if it retracts."""
    sign = 1 if word == "add" else -1
    # A row of a "none" role takes results away, and so does one of the optional role: the gap.
    takes_away = sort == "none" or (sort == "optional" and not has_optional)
    return -sign if takes_away else sign


def _is_word_and_names(value):
    return is_tuple(value, 1, 4) and all([is_name(part) for part in value])


def _check_query(query):
    if not isinstance(query, Query):
        raise InvalidQuery("not a query")


def _check_stores(query, stores):
    if not are_stores(query, stores):
        raise InvalidStore("not a dict of stores and counters of this query")


def _check_pair(query, stores, word, role):
    _check_query(query)
    _check_stores(query, stores)
    _check_word_and_role(query, word, role)


def _check_word_and_role(query, word, role):
    if word not in WORDS:
        raise InvalidOperation("neither add nor remove")
    if role not in query:
        raise UnknownName(role)


def _roles_behind(query, stores, pair, roles, step):
    """The roles of the matches behind a step, or None if the step is not right."""
    action = step[0]
    if action == "emit":
        is_whole = tuple([role for role in roles if role != query.optional]) == query.core
        return roles if is_whole else None
    if step[1] not in stores:
        return None
    entry = stores[step[1]]
    if action == "update":
        return roles if is_store(entry) and entry[1] == roles else None
    if action == "join":
        return _roles_behind_join(query, entry, pair, roles)
    if is_store(entry):
        return None
    side = entry[1]
    ties = query.ties(side)
    if action == "count":
        return ties if pair[1] == side and roles == tuple(sorted(ties + (side,))) else None
    if action == "recount":
        is_told = pair[0] == "add" and pair[1] in ties and roles == ties
        return roles if is_told and stores.get(step[2]) == ("plain", (side,)) else None
    return roles if side not in roles and all([role in roles for role in ties]) else None


def _roles_behind_join(query, entry, pair, roles):
    if not is_store(entry) or any([role in roles for role in entry[1]]):
        return None
    if entry[1][0] in query.sides and (entry[1][0] != query.optional or pair[1] not in query.core):
        return None
    return tuple(sorted(roles + entry[1]))


def _is_right_change(query, stores, step):
    """Whether a step of a transition is right."""
    action = step[0]
    if step[1] not in stores:
        return False
    entry = stores[step[1]]
    if action in ("fill", "append"):
        return entry[0] == "plain" and make_up(query, stores, entry[1], step[2], step[3])
    if action == "clear":
        return is_store(entry)
    if is_store(entry):
        return False
    if action == "reset":
        return True
    side = entry[1]
    return stores.get(step[2]) == ("plain", query.ties(side)) and stores.get(step[3]) == ("plain", (side,))
