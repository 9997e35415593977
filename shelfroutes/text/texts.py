"""Queries, plans and schemes as texts."""

from shelfroutes.errors import InvalidPlan, InvalidQuery, ParseError
from shelfroutes.plan.plans import Plan
from shelfroutes.plan.schemes import Scheme, check_scheme
from shelfroutes.query.queries import Query
from shelfroutes.text.lines import PLAN_KINDS, QUERY_KINDS, SCHEME_KINDS, records_of


def write_query(query):
    """The text of a query."""
    if not isinstance(query, Query):
        raise InvalidQuery("not a query")
    return "\n".join(_query_lines(query))


def write_plan(plan):
    """The text of a plan."""
    if not isinstance(plan, Plan):
        raise InvalidPlan("not a plan")
    return "\n".join(_plan_lines(plan))


def write_scheme(scheme):
    """The text of a scheme."""
    check_scheme(scheme)
    stores, plans, transitions = scheme.stores, scheme.plans, scheme.transitions
    lines = _query_lines(scheme.query) + [f"lasting {table}" for table in scheme.lasting]
    lines.extend([_store_line(name, stores[name]) for name in stores])
    for name in plans:
        lines.append(f"plan {name}")
        lines.extend(_plan_lines(plans[name]))
    for name, other in transitions:
        lines.append(_line_with_steps(f"switch {name} {other}", transitions[name, other]))
    lines.append(f"first {scheme.first}")
    return "\n".join(lines)


def read_query(text):
    """The query with this text."""
    return _query_of(records_of(_lines_of(text), QUERY_KINDS))


def read_plan(text):
    """The plan with this text."""
    # A plan without pipelines has no line, but splitting a text gives at least one.
    lines = [line for line in _lines_of(text) if text != ""]
    return Plan(_pipelines_of(records_of(lines, PLAN_KINDS)))


def read_scheme(text):
    """The scheme with this text."""
    lines = _lines_of(text)
    records = records_of(lines, SCHEME_KINDS)
    if records[-1][0] != "first":
        raise ParseError(len(lines))
    query = _query_of(records)
    lasting = tuple([table for kind, table, _ in records if kind == "lasting"])
    return Scheme(query, lasting=lasting, stores=_told(records, "store"), plans=_plans_of(records),
                  transitions=_told(records, "switch"), first=records[-1][2])


def _query_lines(query):
    tables, roles = query.tables, query.roles
    lines = [" ".join(("table", name) + tables[name]) for name in tables]
    lines.extend([" ".join(("role", role) + roles[role]) for role in roles])
    lines.extend([f"test {role}.{column} = {other}.{opposite}" for role, column, other, opposite in query.tests])
    return lines


def _plan_lines(plan):
    return [_line_with_steps(" ".join(pair), pipeline) for pair in plan for pipeline in plan[pair]]


def _line_with_steps(head, steps):
    """A line of a pipeline or a transition; one without steps ends with the colon."""
    if steps == ():
        return f"{head}:"
    told = ", ".join([" ".join(step) for step in steps])
    return f"{head}: {told}"


def _store_line(name, entry):
    if entry[0] == "plain":
        return " ".join(("store", name) + entry[1])
    if entry[0] == "lazy":
        kind, roles, role, column, one, other = entry
        return " ".join((kind, name) + roles + ("by", f"{role}.{column}", "from", one, other))
    return f"{entry[0]} {name} {entry[1]}"


def _lines_of(text):
    if not isinstance(text, str):
        raise ParseError(None)
    return text.split("\n")


def _told(records, kind):
    """A dict of what the lines of a kind tell, by what they are ordered by."""
    return {key: rest for other, key, rest in records if other == kind}


def _query_of(records):
    tests = tuple([test for kind, test, _ in records if kind == "test"])
    return Query.of(_told(records, "table"), tests, _told(records, "role"))


def _pipelines_of(records):
    """A dict from pairs to the tuples of their pipelines."""
    pipelines = {}
    for _, pair, steps in records:
        pipelines[pair] = pipelines.get(pair, ()) + (steps,)
    return pipelines


def _plans_of(records):
    """A dict from names to plans; a plan has the pipelines up to the next line of another kind."""
    parts = {}
    name = ""
    for record in records:
        if record[0] == "plan":
            name = record[1]
            parts[name] = []
        elif record[0] == "pipeline":
            parts[name].append(record)
    return {name: Plan(_pipelines_of(parts[name])) for name in parts}
