"""A second reckoning, told independently of the package: all rows of all roles are tried.

Matches are frozen sets of pairs (role, key).
"""

import itertools
from collections import Counter


class Full(Exception):
    """More than 2000 different matches."""


def holds(query, rows, match):
    """Whether all tests hold between the roles of a match; `rows` gives (table, row) of each key."""
    keys = dict(match)
    for role, column, other, opposite in query.tests:
        if role in keys and other in keys:
            one = rows[keys[role]][1][query.tables[query.roles[role][1]].index(column)]
            two = rows[keys[other]][1][query.tables[query.roles[other][1]].index(opposite)]
            if one != two:
                return False
    return True


def all_matches(query, rows, roles):
    """All matches of some roles as tuples of keys, in ascending order."""
    choices = [[key for key in sorted(rows) if rows[key][0] == query.roles[role][1]] for role in roles]
    return tuple(keys for keys in itertools.product(*choices) if holds(query, rows, zip(roles, keys)))


def cores(query):
    return tuple(sorted(role for role in query.roles if query.roles[role][0] == "core"))


def sides(query):
    return tuple(sorted(role for role in query.roles if query.roles[role][0] != "core"))


def ties(query, side):
    tied = {test[2] for test in query.tests if test[0] == side} | {test[0] for test in query.tests if test[2] == side}
    return tuple(sorted(tied))


def fits(query, rows, match, side):
    """The keys of the rows of a side role that fit a match, given as a dict."""
    return tuple(key for key in sorted(rows) if rows[key][0] == query.roles[side][1]
                 and holds(query, rows, {**match, side: key}.items()))


def due(query, rows, keys):
    match = dict(zip(cores(query), keys))
    told = {"some": lambda found: found != (), "none": lambda found: found == (), "optional": lambda found: True}
    return all(told[query.roles[side][0]](fits(query, rows, match, side)) for side in sides(query))


def results(query, rows):
    """The list of the results."""
    found = []
    for keys in all_matches(query, rows, cores(query)):
        if due(query, rows, keys):
            optional = [side for side in sides(query) if query.roles[side][0] == "optional"]
            if optional:
                others = fits(query, rows, dict(zip(cores(query), keys)), optional[0]) or (None,)
                found.extend(keys + (other,) for other in others)
            else:
                found.append(keys)
    return found


class PlainEngine:
    """What an engine of a scheme holds, without any index and with one copy of all."""

    def __init__(self, scheme):
        self.scheme, self.query = scheme, scheme.query
        self.entries = scheme.stores
        self.plan = scheme.first
        self.rows, self.there = {}, set()
        self.stores = {name: Counter() for name, entry in self.entries.items() if entry[0] in ("plain", "lazy")}
        self.open = {name: set() for name, entry in self.entries.items() if entry[0] == "lazy"}
        self.counts = {name: set() for name, entry in self.entries.items() if entry[0] == "counter"}
        self.flags = {name: set() for name, entry in self.entries.items() if entry[0] == "flag"}
        self.output = Counter()
        self.moves = {}

    def present(self):
        return {key: self.rows[key] for key in self.rows if key in self.there}

    def key(self, name, match):
        _, _, role, column, _, _ = self.entries[name]
        table, row = self.rows[dict(match)[role]]
        return row[self.query.tables[table].index(column)]

    def join(self, ones, others):
        found = Counter()
        for one, other in itertools.product(ones, others):
            if holds(self.query, self.rows, one | other):
                found[one | other] += ones[one] * others[other]
        return found

    def shown(self, name):
        entry = self.entries[name]
        found = Counter(self.stores[name])
        if entry[0] == "lazy":
            for match, number in self.join(self.shown(entry[4]), self.shown(entry[5])).items():
                if self.key(name, match) not in self.open[name]:
                    found[match] += number
        return found

    def limited(self, found):
        if len(found) > 2000:
            raise Full
        return found

    def do(self, event):
        self.moves = {}
        word = event[0]
        if word == "add":
            key = len(self.rows) + 1
            self.rows[key] = (event[1], event[2])
            self.there.add(key)
            self.send("add", key)
        elif word == "remove":
            self.there.remove(event[1])
            self.send("remove", event[1])
        elif word == "switch":
            for step in self.scheme.transitions[self.plan, event[1]]:
                self.change(step)
            self.plan = event[1]
        elif word == "load":
            if event[2] not in self.open[event[1]]:
                shown = self.shown(event[1])
                self.open[event[1]].add(event[2])
                for match, number in shown.items():
                    if self.key(event[1], match) == event[2]:
                        self.stores[event[1]][match] = number
                self.limited(self.stores[event[1]])
        else:
            self.open[event[1]].discard(event[2])
            held = self.stores[event[1]]
            self.stores[event[1]] = Counter({match: held[match] for match in held
                                             if self.key(event[1], match) != event[2]})

    def change(self, step):
        word, name = step[0], step[1]
        if word in ("fill", "append"):
            before = self.stores[name] if word == "append" else Counter()
            self.stores[name] = self.limited(before + self.join(self.shown(step[2]), self.shown(step[3])))
        elif word == "clear":
            self.stores[name] = Counter()
            if name in self.open:
                self.open[name] = set()
        else:
            for kept in (self.counts, self.flags):
                if name in kept:
                    kept[name] = set()
            if word == "recount":
                for match in self.stores[step[2]]:
                    self.recount(name, match, step[3])

    def recount(self, name, match, store):
        side = self.entries[name][1]
        keys = [dict(other)[side] for other in self.stores[store] if holds(self.query, self.rows, match | other)]
        if name in self.flags:
            self.flags[name] = {other for other in self.flags[name] if other != match} | ({match} if keys else set())
        else:
            rest = {pair for pair in self.counts[name] if pair[0] != match}
            self.counts[name] = rest | {(match, key) for key in keys}

    def has_counted(self, name, match):
        tied = ties(self.query, self.entries[name][1])
        match = frozenset(pair for pair in match if pair[0] in tied)
        return match in self.flags[name] if name in self.flags else any(pair[0] == match for pair in self.counts[name])

    def send(self, word, key):
        for role in sorted(self.query.roles):
            if self.query.roles[role][1] == self.rows[key][0]:
                emitted = Counter()
                for pipeline in self.scheme.plans[self.plan][word, role]:
                    found = Counter({frozenset({(role, key)}): 1})
                    for step in pipeline:
                        found = self.limited(self.step(step, word, role, key, found, emitted))
                for result, number in emitted.items():
                    if number:
                        self.moves[role, result] = number
                        self.output[result] += number

    def step(self, step, word, role, key, found, emitted):
        action = step[0]
        if action == "update":
            self.update(step[1], word, role, key, found)
        elif action == "join":
            found = self.join(found, self.shown(step[1]))
        elif action == "count":
            found = self.count(step[1], word, role, key, found)
        elif action == "recount":
            for match in found:
                self.recount(step[1], match, step[2])
        elif action == "emit":
            for match, number in found.items():
                self.emit(word, role, dict(match), number, emitted)
        else:
            found = Counter({match: found[match] for match in found
                             if self.has_counted(step[1], match) == (action == "some")})
        return found

    def update(self, name, word, role, key, found):
        if word == "add":
            for match, number in found.items():
                if name not in self.open or self.key(name, match) in self.open[name]:
                    self.stores[name][match] += number
            self.limited(self.stores[name])
        else:
            held = self.stores[name]
            self.stores[name] = Counter({match: held[match] for match in held if (role, key) not in match})

    def count(self, name, word, role, key, found):
        passed = Counter()
        rests = {match - {(role, key)}: number for match, number in found.items()}
        before = {rest: self.has_counted(name, rest) for rest in rests}
        for rest in rests:
            kept = self.flags[name] if name in self.flags else self.counts[name]
            (kept.add if word == "add" else kept.discard)(rest if name in self.flags else (rest, key))
        for rest, number in rests.items():
            if self.has_counted(name, rest) != before[rest]:
                passed[rest] = number
        return passed

    def emit(self, word, role, match, number, emitted):
        optional = [side for side in sides(self.query) if self.query.roles[side][0] == "optional"]
        keys = tuple(match[core] for core in cores(self.query))
        sort = self.query.roles[role][0]
        if optional:
            keys += (match.get(optional[0]),)
        comes_with = sort in ("core", "some") or (sort == "optional" and role in match)
        emitted[keys] += number if comes_with == (word == "add") else -number
