"""What is valid, told independently of the package: steps, stores, plans and snapshots."""

import re

PIPELINE_WORDS = {"update": 1, "join": 1, "count": 1, "recount": 2, "some": 1, "none": 1, "emit": 0}
TRANSITION_WORDS = {"fill": 3, "append": 3, "clear": 1, "recount": 3, "reset": 1}


def named(value):
    return isinstance(value, str) and re.fullmatch("[a-z]{1,8}", value) is not None


def told_form(words, value):
    return (isinstance(value, tuple) and len(value) > 0 and isinstance(value[0], str) and value[0] in words
            and len(value) == words[value[0]] + 1 and all(named(name) for name in value[1:]))


def told_step(value):
    return told_form(PIPELINE_WORDS, value)


def told_pipeline(value):
    if not isinstance(value, tuple) or not 1 <= len(value) <= 12 or not all(told_step(step) for step in value):
        return False
    words = "".join({"count": "c", "some": "c", "none": "c", "join": "j", "emit": "e"}.get(step[0], "u")
                    for step in value)
    # A `c` may also stand before any of its kind but a count: that is looked at below.
    if not re.fullmatch("[uj]*([cj]*)e?", words):
        return False
    choosing = [at for at, step in enumerate(value) if step[0] in ("count", "some", "none")]
    return all(value[at][0] != "count" for at in choosing[1:])


def told_transition(value):
    return (isinstance(value, tuple) and len(value) <= 12 and all(told_form(TRANSITION_WORDS, step) for step in value)
            and len({step[1] for step in value}) == len(value))


def of_sort(query, sort):
    return [role for role, (other, _) in query.roles.items() if other == sort]


def told_entry(query, value, entry):
    core = of_sort(query, "core")
    sides = [role for role in query.roles if role not in core]

    def ascends(roles, least):
        return (isinstance(roles, tuple) and len(roles) >= least and all(named(role) and role in core for role in roles)
                and list(roles) == sorted(set(roles)))
    if not isinstance(entry, tuple) or not entry or not isinstance(entry[0], str):
        return False
    if entry[0] == "plain":
        return len(entry) == 2 and (ascends(entry[1], 1) or entry[1] in [(side,) for side in sides])
    if entry[0] == "lazy":
        if len(entry) != 6 or not ascends(entry[1], 2):
            return False
        _, roles, role, column, one, other = entry
        if not all(named(name) for name in entry[2:]) or role not in roles:
            return False
        if column not in query.tables[query.roles[role][1]] or one not in value or other not in value:
            return False
        parts = [value[name] for name in (one, other)]
        if not all(isinstance(part, tuple) and part[:1] in (("plain",), ("lazy",)) and len(part) > 1
                   and ascends(part[1], 1) for part in parts):
            return False
        return sorted(parts[0][1] + parts[1][1]) == list(roles)
    return entry[0] in ("counter", "flag") and len(entry) == 2 and named(entry[1]) and entry[1] in sides


def told_stores(query, value):
    if not isinstance(value, dict) or len(value) > 12 or not all(named(name) for name in value):
        return False
    if not all(told_entry(query, value, entry) for entry in value.values()):
        return False
    counted = sorted(entry[1] for entry in value.values() if entry[0] in ("counter", "flag"))
    return counted == sorted(role for role in query.roles if query.roles[role][0] != "core")


def told_ties(query, side):
    return tuple(sorted({role for test in query.tests for role in (test[0], test[2])
                         if side in (test[0], test[2]) and role != side}))


def told_roles_behind(query, stores, word, role, roles, step):
    """The roles behind a step of the form of one, or None if it is not right for these stores."""
    core, optional = of_sort(query, "core"), of_sort(query, "optional")
    action = step[0]
    entries = [stores.get(name) for name in step[1:]]
    if None in entries:
        return None
    if action == "emit":
        return roles if set(roles) - set(optional) == set(core) else None
    kind, told = entries[0][0], entries[0][1]
    if action in ("update", "join"):
        if kind not in ("plain", "lazy"):
            return None
        if action == "update":
            return roles if told == roles else None
        if set(told) & set(roles):
            return None
        is_side_store = told[0] not in core
        if is_side_store and not (list(told) == optional and role in core):
            return None
        return tuple(sorted(set(roles) | set(told)))
    if kind not in ("counter", "flag"):
        return None
    tied = told_ties(query, told)
    if action == "count":
        return tied if role == told and set(roles) == set(tied) | {told} else None
    if action == "recount":
        is_right = set(roles) == set(tied) and word == "add" and role in tied and entries[1] == ("plain", (told,))
        return roles if is_right else None
    return roles if set(tied) <= set(roles) and told not in roles else None


def told_along(query, stores, word, role, pipeline):
    """The roles up to the first step that is not right, and whether all steps are right."""
    along = [(role,)]
    for step in pipeline:
        behind = told_roles_behind(query, stores, word, role, along[-1], step)
        if behind is None:
            return along, False
        along.append(behind)
    return along, True


def told_change(query, stores, step):
    """Whether a step of a transition, of the form of one, is right for these stores."""
    entries = [stores.get(name) for name in step[1:]]
    if None in entries:
        return False
    core = of_sort(query, "core")
    is_counter = entries[0][0] in ("counter", "flag")
    if step[0] == "clear":
        return not is_counter
    if step[0] == "reset":
        return is_counter
    if step[0] == "recount":
        side = entries[0][1]
        return is_counter and entries[1] == ("plain", told_ties(query, side)) and entries[2] == ("plain", (side,))
    if entries[0][0] != "plain" or len(entries[0][1]) < 2 or not all(entry[0] in ("plain", "lazy") for entry in entries):
        return False
    parts = entries[1][1] + entries[2][1]
    return sorted(parts) == list(entries[0][1]) and all(role in core for role in parts)
