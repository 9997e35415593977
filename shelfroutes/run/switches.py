"""Transitions at work, and keys of lazy stores that are loaded and evicted."""

from shelfroutes.run.flows import recounted
from shelfroutes.run.joins import joined_at_key, joined_sources
from shelfroutes.run.states import check_matches


def do_switch(state, plan, steps):
    """Do the steps of a transition to a plan."""
    for step in steps:
        _change(state, step)
    state.at_plan = plan


def load_key(state, name, key):
    """Load a key of a lazy store, unless it is loaded."""
    if key not in state.open_keys[name]:
        numbers = {**state.numbers[name], **joined_at_key(state, name, key)}
        check_matches(numbers)
        state.numbers[name] = numbers
        state.open_keys[name] = {**state.open_keys[name], key: True}


def evict_key(state, name, key):
    """Unload a key of a lazy store."""
    held = state.numbers[name]
    place = state.key_place(state.entries[name][1], name)
    state.numbers[name] = {match: held[match] for match in held if state.key_at(place, match) != key}
    state.open_keys[name] = {other: True for other in state.open_keys[name] if other != key}


def _change(state, step):
    action, name = step[0], step[1]
    if action == "fill":
        state.numbers[name] = joined_sources(state, step[2], step[3])
    elif action == "append":
        state.numbers[name] = _with_more(state.numbers[name], joined_sources(state, step[2], step[3]))
    elif action == "clear":
        state.numbers[name] = {}
        if name in state.open_keys:
            state.open_keys[name] = {}
    elif action == "recount":
        state.counts[name] = recounted(state, name, state.numbers[step[2]], step[3])
    else:
        state.counts[name] = {}


def _with_more(numbers, others):
    more = {match: numbers[match] for match in numbers}
    for match in others:
        more[match] = more.get(match, 0) + others[match]
    check_matches(more)
    return more
