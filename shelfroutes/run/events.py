"""The form of events."""

from shelfroutes.base.names import is_integer, is_name, is_row


def is_event_form(value):
    """Whether the value has the form of an event."""
    if not isinstance(value, tuple) or len(value) < 2:
        return False
    word = value[0]
    if word == "add":
        return len(value) == 3 and is_name(value[1]) and is_row(value[2])
    if word == "remove":
        return len(value) == 2 and is_integer(value[1])
    if word == "switch":
        return len(value) == 2 and is_name(value[1])
    return word in ("load", "evict") and len(value) == 3 and is_name(value[1]) and is_integer(value[2])
