"""What is used: the stores and counters from which something can still reach the output.

That an item is needed at a plan is told by links, as they stand in trails: pairs of an item and a link.
"""

from shelfroutes.base.names import is_ascending, is_name, is_same
from shelfroutes.errors import InvalidOperation, UnknownName
from shelfroutes.plan.schemes import MAX_STORES, check_scheme

_ASKING = ("count", "join", "none", "some")


def used(scheme):
    """The least closed uses."""
    check_scheme(scheme)
    return least_uses(scheme)


def is_closed(scheme, value):
    """Whether the value is closed uses."""
    check_scheme(scheme)
    return are_uses(scheme, value) and are_closed(scheme, value)


def needed_before(scheme, plan, other, items):
    """What the transition from one plan to the other needs if these items are chosen at its end."""
    check_scheme(scheme)
    for name in (plan, other):
        if name not in scheme:
            raise UnknownName(name)
    if not are_items(scheme, items):
        raise InvalidOperation("not an ascending tuple of stores and counters")
    return _needed_ahead_of(scheme.stores, scheme.steps_of(plan, other), items)


def trail_of(scheme, plan, item):
    """A trail of an item at a plan with as few links as possible, or None."""
    _check_place(scheme, plan, item)
    links = _all_links(scheme)
    trails = {(plan, item): ()}
    ends = [(plan, item)]
    while ends != []:
        further = []
        for at, needed in ends:
            for link in _links_from(links, at, needed):
                trail = trails[at, needed] + (link,)
                if link[0] == "emit":
                    return trail
                behind = _place_behind(at, link)
                if behind not in trails:
                    trails[behind] = trail
                    further.append(behind)
        ends = further
    return None


def is_trail(scheme, plan, item, value):
    """Whether the value is a trail of an item at a plan."""
    _check_place(scheme, plan, item)
    if not isinstance(value, tuple):
        return False
    links = _all_links(scheme)
    place = (plan, item)
    for told in value:
        # Behind the output nothing follows.
        if place is None:
            return False
        found = [link for link in _links_from(links, place[0], place[1]) if is_same(told, link)]
        if found == []:
            return False
        place = _place_behind(place[0], found[0])
    return place is None


def are_items(scheme, value):
    """Whether the value is an ascending tuple of stores and counters."""
    return is_ascending(value, 0, MAX_STORES) and all([name in scheme.stores for name in value])


def are_uses(scheme, value):
    """Whether the value is uses: a dict from just the reached plans to ascending tuples of items."""
    if not isinstance(value, dict) or len(value) != len(scheme.reached):
        return False
    return all([plan in value and are_items(scheme, value[plan]) for plan in scheme.reached])


def are_closed(scheme, uses):
    """Whether all that uses need is chosen."""
    for plan in scheme.reached:
        for item, link in _links_at(scheme, plan):
            if item not in uses[plan] and _is_chosen(uses, _place_behind(plan, link)):
                return False
    return True


def least_uses(scheme):
    """The least closed uses of a scheme."""
    links = _all_links(scheme)
    uses = {plan: () for plan in scheme.reached}
    more = _with_what_is_needed(links, uses)
    while more != uses:
        uses = more
        more = _with_what_is_needed(links, uses)
    return uses


def _with_what_is_needed(links, uses):
    """The uses with all that they need."""
    more = {}
    for plan in uses:
        needed = [item for item, link in links[plan] if _is_chosen(uses, _place_behind(plan, link))]
        more[plan] = tuple(sorted(set(needed + list(uses[plan]))))
    return more


def _links_from(links, plan, needed):
    """A list of the links from an item at a plan."""
    return [link for item, link in links[plan] if item == needed]


def _place_behind(plan, link):
    """The pair of a plan and an item to which a link leads, or None for the output."""
    if link[0] == "emit":
        return None
    return (link[1] if link[0] == "switch" else plan), link[-1]


def _is_chosen(uses, place):
    return place is None or place[1] in uses[place[0]]


def _all_links(scheme):
    """For each reached plan the pairs of an item and a link from it."""
    return {plan: _links_at(scheme, plan) for plan in scheme.reached}


def _links_at(scheme, name):
    """The pairs of an item and a link from it, at a plan."""
    entries, plan = scheme.stores, scheme[name]
    pairs = []
    for word, role in plan:
        for index, pipeline in enumerate(plan[word, role]):
            pairs.extend(_links_in(word, role, index, pipeline))
    for store in entries:
        if entries[store][0] == "lazy":
            pairs.extend([(source, ("source", store)) for source in entries[store][4:]])
    for one, other in scheme.transitions:
        if one == name:
            pairs.extend(_links_over(entries, scheme.steps_of(one, other), other))
    return pairs


def _links_in(word, role, index, pipeline):
    """The pairs of an item and a link from it, for what the steps of a pipeline need."""
    pairs = []
    ahead = []
    for step in pipeline:
        if step[0] == "emit":
            pairs.extend([(item, ("emit", word, role, index)) for item in ahead])
        elif step[0] in ("count", "recount") or (step[0] == "update" and word == "add"):
            # A recount counts what stands in its side store.
            pairs.extend([(item, ("pipe", word, role, index, step[1])) for item in ahead + list(step[2:])])
        if step[0] in _ASKING:
            ahead.append(step[1])
    return pairs


def _links_over(entries, steps, other):
    """The pairs of an item and a link from it, for what a transition to another plan needs."""
    pairs = []
    for chosen in entries:
        pairs.extend([(item, ("switch", other, chosen)) for item in _needed_ahead_of(entries, steps, (chosen,))])
    return pairs


def _needed_ahead_of(entries, steps, items):
    """The ascending tuple of what has to be chosen ahead of a transition if some items are chosen behind it."""
    chosen = _with_sources(entries, items)
    for step in steps[::-1]:
        action, name = step[0], step[1]
        if name in chosen:
            # An append adds to what the store holds already, all other steps replace it.
            kept = [item for item in chosen if action == "append" or item != name]
            chosen = kept + _with_sources(entries, step[2:])
    return tuple(sorted(set(chosen)))


def _with_sources(entries, items):
    """A list of the items, with the sources of lazy stores among them, and theirs."""
    found = []
    for item in items:
        found.append(item)
        if entries[item][0] == "lazy":
            found.extend(_with_sources(entries, entries[item][4:]))
    return found


def _check_place(scheme, plan, item):
    check_scheme(scheme)
    if not is_name(plan) or plan not in scheme.reached:
        raise UnknownName(plan)
    if not is_name(item) or item not in scheme.stores:
        raise UnknownName(item)
