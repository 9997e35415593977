"""Which dicts are the stores and counters of a query."""

from shelfroutes.base.names import is_ascending, is_name, is_tuple
from shelfroutes.query.queries import MAX_CORE

MAX_ENTRIES = 12


def are_stores(query, value):
    """Whether the value is a dict from at most twelve names to stores and counters of a query."""
    if not isinstance(value, dict) or len(value) > MAX_ENTRIES or not all([is_name(name) for name in value]):
        return False
    if not all([_is_entry(query, value[name]) for name in value]):
        return False
    lazy = [value[name] for name in value if value[name][0] == "lazy"]
    if not all([_has_sources(query, value, entry) for entry in lazy]):
        return False
    counted = [value[name][1] for name in value if not is_store(value[name])]
    return sorted(counted) == list(query.sides)


def is_store(entry):
    """Whether one of the stores and counters is a store."""
    return entry[0] in ("plain", "lazy")


def is_core_store(query, entry):
    """Whether one of the stores and counters is a store of core roles."""
    return is_store(entry) and entry[1][0] in query.core


def make_up(query, stores, roles, one, other):
    """Whether two names are stores of core roles, without common roles, which together have just these roles."""
    if one not in stores or other not in stores:
        return False
    first, second = stores[one], stores[other]
    return (is_core_store(query, first) and is_core_store(query, second)
            and tuple(sorted(first[1] + second[1])) == roles)


def _is_entry(query, value):
    """Whether the value has the form of a store or counter of a query, whatever the sources of a lazy store are."""
    if not is_tuple(value, 2, 6):
        return False
    if value[0] == "plain":
        return len(value) == 2 and (_are_core_roles(query, value[1], 1) or _is_side(query, value[1]))
    if value[0] == "lazy":
        return len(value) == 6 and _is_lazy(query, value)
    return value[0] in ("counter", "flag") and len(value) == 2 and _is_side(query, (value[1],))


def _are_core_roles(query, value, least):
    return is_ascending(value, least, MAX_CORE) and all([role in query.core for role in value])


def _is_side(query, value):
    """Whether the value is a tuple of just one side role."""
    return is_ascending(value, 1, 1) and value[0] in query.sides


def _is_lazy(query, value):
    _, roles, role, column, one, other = value
    if not _are_core_roles(query, roles, 2) or not all([is_name(name) for name in (role, column, one, other)]):
        return False
    return role in roles and column in query.columns_of(role)


def _has_sources(query, stores, entry):
    _, roles, _, _, one, other = entry
    return make_up(query, stores, roles, one, other)
