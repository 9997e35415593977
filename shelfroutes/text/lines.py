"""Lines of texts: what each one tells, and which ones may follow others.

What a line tells is a record: its kind, what lines of this kind are ordered by, and the rest.
"""

from shelfroutes.base.names import is_ascending, is_name
from shelfroutes.errors import ParseError
from shelfroutes.plan.steps import WORDS, is_change, is_step
from shelfroutes.query.queries import Query

QUERY_KINDS = ("table", "role", "test")
PLAN_KINDS = ("pipeline",)
SCHEME_KINDS = ("table", "role", "test", "lasting", "store", "plan", "pipeline", "switch", "first")
_RANKS = {"table": 0, "role": 1, "test": 2, "lasting": 3, "store": 4, "plan": 5, "pipeline": 5, "switch": 6, "first": 7}
# A place is the rank of a line, what it is ordered by, and the pair of a pipeline.
_AHEAD_OF_ALL = (-1, "", ())
_IN_A_PLAN = (5, "", ())


def records_of(lines, kinds):
    """The records of lines of these kinds; those of a plan alone need no line of the kind "plan" ahead of them."""
    records = []
    place = _IN_A_PLAN if kinds == PLAN_KINDS else _AHEAD_OF_ALL
    for at, line in enumerate(lines):
        record = _record_of(line)
        if record is None or record[0] not in kinds:
            raise ParseError(at)
        place = _place_behind(place, record)
        if place is None:
            raise ParseError(at)
        records.append(record)
    return records


def _place_behind(place, record):
    """The place of a record, or None if it may not follow a line with this place."""
    kind, key, _ = record
    if kind == "pipeline":
        own = (place[0], place[1], key)
        return own if place[0] == _RANKS[kind] and own >= place else None
    own = (_RANKS[kind], key, ())
    return own if own > place else None


def _record_of(line):
    """The record of a line, or None if it is none of the lines."""
    words = line.split(" ")
    kind = words[0]
    if kind in WORDS:
        return _pipeline_record(line)
    if kind == "switch":
        return _switch_record(line)
    if kind == "test":
        return _test_record(words)
    if kind == "lazy":
        return _lazy_record(words)
    if len(words) < 2 or not is_name(words[1]):
        return None
    return _record_of_name(kind, words[1], words[2:])


def _record_of_name(kind, name, rest):
    """The record of a line that begins with its kind and a name."""
    if kind == "table":
        return (kind, name, tuple(rest)) if _are_ascending(rest, 1) else None
    if kind == "role":
        is_told = len(rest) == 2 and Query.is_sort(rest[0]) and is_name(rest[1])
        return (kind, name, tuple(rest)) if is_told else None
    if kind == "store":
        return ("store", name, ("plain", tuple(rest))) if _are_ascending(rest, 1) else None
    if kind in ("counter", "flag"):
        return ("store", name, (kind, rest[0])) if _are_ascending(rest, 1) and len(rest) == 1 else None
    if kind in ("lasting", "plan"):
        return (kind, name, None) if rest == [] else None
    # All such lines have one place, so that there is only one of them.
    return (kind, "", name) if kind == "first" and rest == [] else None


def _test_record(words):
    if len(words) != 4 or words[2] != "=":
        return None
    one, other = tuple(words[1].split(".")), tuple(words[3].split("."))
    if not _are_names(one, 2) or not _are_names(other, 2) or one[0] >= other[0]:
        return None
    return "test", one + other, None


def _lazy_record(words):
    if len(words) < 9 or words[-5] != "by" or words[-3] != "from":
        return None
    column = tuple(words[-4].split("."))
    sources = (words[-2], words[-1])
    if not is_name(words[1]) or not _are_ascending(words[2:-5], 2):
        return None
    if not _are_names(column, 2) or not _are_names(sources, 2):
        return None
    return "store", words[1], ("lazy", tuple(words[2:-5]), *column, *sources)


def _pipeline_record(line):
    head, _, rest = line.partition(": ")
    pair = tuple(head.split(" "))
    steps = _steps_of(rest)
    if not _are_names(pair, 2) or not all([is_step(step) for step in steps]):
        return None
    return "pipeline", pair, steps


def _switch_record(line):
    head, _, rest = (line[:-1], "", "") if line.endswith(":") else line.partition(": ")
    names = tuple(head.split(" "))
    steps = () if line.endswith(":") else _steps_of(rest)
    if not _are_names(names, 3) or not all([is_change(step) for step in steps]):
        return None
    return "switch", names[1:], steps


def _steps_of(text):
    return tuple([tuple(part.split(" ")) for part in text.split(", ")])


def _are_names(words, many):
    return len(words) == many and all([is_name(word) for word in words])


def _are_ascending(words, least):
    return is_ascending(tuple(words), least, len(words))
