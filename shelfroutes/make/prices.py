"""Cheapest transitions: which stores are filled from which others, one after another, so that wanted ones show
what they are meant to show.

Stores are sound or not. A position is the ascending tuple of the sound ones.
"""

from shelfroutes.base.names import is_ascending, is_integer, is_same, is_tuple
from shelfroutes.errors import InvalidOperation
from shelfroutes.plan.schemes import MAX_STORES, check_scheme
from shelfroutes.plan.stores import is_core_store, make_up
from shelfroutes.query.worlds import World, matches

_MAX_SIZE = 10 ** 50


def repairs(scheme):
    """The ascending tuple of all repairs."""
    check_scheme(scheme)
    return _all_repairs(scheme)


def possible_repairs(scheme, sound):
    """The ascending tuple of the repairs that are possible if just these stores are sound."""
    check_scheme(scheme)
    _check_position(scheme, sound)
    return Ground(scheme, {}).possible(sound)


def price_of(scheme, sizes, course):
    """The price of a tuple of repairs."""
    _check_sizes(scheme, sizes)
    if not _are_repairs(scheme, course):
        raise InvalidOperation("not a tuple of repairs")
    return _sum_of_prices(Ground(scheme, sizes), course)


def sizes_in(scheme, world):
    """How many matches there are in a world, for the roles of each plain store of two or more core roles."""
    check_scheme(scheme)
    if not isinstance(world, World) or world.query != scheme.query:
        raise InvalidOperation("not a world of an equal query")
    return {roles: len(matches(world, roles)) for roles in _sized_roles(scheme)}


def cheapest(scheme, sizes, sound, wanted):
    """A course with the least price, or None."""
    _check_task(scheme, sizes, sound, wanted)
    return PriceSearch(Ground(scheme, sizes), sound, wanted).cheapest_course()


def price_paper(scheme, sizes, sound, wanted):
    """A paper: a cheapest course with a price table, or a bar."""
    _check_task(scheme, sizes, sound, wanted)
    search = PriceSearch(Ground(scheme, sizes), sound, wanted)
    course = search.cheapest_course()
    if course is None:
        return "bar", search.last_position()
    return "course", course, search.price_table()


def is_price_paper(scheme, sizes, sound, wanted, value):
    """Whether the value is a paper."""
    _check_task(scheme, sizes, sound, wanted)
    ground = Ground(scheme, sizes)
    if is_tuple(value, 2, 2) and value[0] == "bar":
        return _is_bar(ground, sound, wanted, value[1])
    if not is_tuple(value, 3, 3) or value[0] != "course":
        return False
    _, course, table = value
    if not _is_course(ground, sound, wanted, course) or not _is_price_table(ground, sound, wanted, table):
        return False
    return table[sound] == _sum_of_prices(ground, course)


class Ground:
    """The repairs of a scheme, with their prices."""

    def __init__(self, scheme, sizes):
        self._scheme = scheme
        self._sizes = sizes
        self._entries = scheme.stores
        self._found = [(repair, self._sources_of(repair)) for repair in _all_repairs(scheme)]

    def _sources_of(self, repair):
        return repair[2:] if repair[0] == "fill" else self._entries[repair[1]][4:]

    def possible(self, position):
        """The ascending tuple of the repairs that are possible at a position."""
        return tuple([repair for repair, sources in self._found
                      if repair[1] not in position and all([source in position for source in sources])])

    def price(self, repair):
        """The price of a repair."""
        return self._sizes[self._entries[repair[1]][1]] if repair[0] == "fill" else 0

    def is_position(self, value):
        """Whether the value is an ascending tuple of stores of core roles."""
        return _is_position(self._scheme, value)


class PriceSearch:
    """All positions that repairs lead to, and what the wanted stores cost from there."""

    def __init__(self, ground, sound, wanted):
        self._ground = ground
        self._sound = sound
        self._wanted = wanted
        # Each repair makes one more store sound: all ways to a position are equally long.
        self._layers = [[sound]]
        while self._layers[-1] != []:
            self._layers.append(self._behind(self._layers[-1]))
        self._layers.pop()
        self._costs = {}
        self._best = {}
        for layer in self._layers[::-1]:
            for position in layer:
                self._look_at(position)

    def _behind(self, layer):
        """The positions to which one repair leads."""
        found = [position_behind(position, repair) for position in layer for repair in self._ground.possible(position)]
        return sorted(set(found))

    def _look_at(self, position):
        """Find out what the wanted stores cost from a position, and the first repair of a cheapest course."""
        if all([store in position for store in self._wanted]):
            self._costs[position] = 0
            return
        for repair in self._ground.possible(position):
            behind = position_behind(position, repair)
            if behind in self._costs:
                cost = self._ground.price(repair) + self._costs[behind]
                if position not in self._costs or cost < self._costs[position]:
                    self._costs[position] = cost
                    self._best[position] = repair

    def last_position(self):
        """The position at which no repair is possible: all ways end there."""
        return self._layers[-1][0]

    def cheapest_course(self):
        """A course with the least price, or None."""
        if self._sound not in self._costs:
            return None
        course = []
        position = self._sound
        while position in self._best:
            course.append(self._best[position])
            position = position_behind(position, self._best[position])
        return tuple(course)

    def price_table(self):
        """The table of what the wanted stores cost from all positions, if there is a course."""
        return {position: self._costs[position] for position in sorted(list(self._costs))}


def position_behind(position, repair):
    """The position to which a repair leads."""
    return tuple(sorted(position + (repair[1],)))


def _all_repairs(scheme):
    entries = scheme.stores
    names = [name for name in entries if is_core_store(scheme.query, entries[name])]
    found = [("clear", name) for name in names if entries[name][0] == "lazy"]
    for name in names:
        if entries[name][0] == "plain":
            found.extend([("fill", name, one, other) for one in names for other in names
                          if one < other and make_up(scheme.query, entries, entries[name][1], one, other)])
    return tuple(sorted(found))


def _sized_roles(scheme):
    """A list of the tuples of roles of the plain stores with two or more core roles, ascending."""
    entries = [scheme.stores[name] for name in scheme.stores]
    return sorted(set([entry[1] for entry in entries if entry[0] == "plain" and len(entry[1]) > 1]))


def _sum_of_prices(ground, course):
    return sum([ground.price(repair) for repair in course])


def _is_course(ground, sound, wanted, value):
    """Whether the value is repairs, possible one after another, behind which all wanted stores are sound."""
    if not isinstance(value, tuple):
        return False
    position = sound
    for told in value:
        found = [repair for repair in ground.possible(position) if is_same(told, repair)]
        if found == []:
            return False
        position = position_behind(position, found[0])
    return all([store in position for store in wanted])


def _is_price_table(ground, sound, wanted, value):
    if not isinstance(value, dict) or not all([ground.is_position(key) for key in value]) or sound not in value:
        return False
    if not all([is_integer(value[key]) and value[key] >= 0 for key in value]):
        return False
    return all([_is_priced(ground, wanted, value, position) for position in value])


def _is_priced(ground, wanted, table, position):
    """Whether the integer of a position is as a price table has it."""
    ways = [(ground.price(repair), position_behind(position, repair)) for repair in ground.possible(position)]
    if not all([behind in table for _, behind in ways]):
        return False
    if all([store in position for store in wanted]):
        return table[position] == 0
    return all([table[position] <= price + table[behind] for price, behind in ways])


def _is_bar(ground, sound, wanted, value):
    if not ground.is_position(value) or not all([store in value for store in sound]):
        return False
    return not all([store in value for store in wanted]) and ground.possible(value) == ()


def _is_position(scheme, value):
    if not is_ascending(value, 0, MAX_STORES):
        return False
    entries = scheme.stores
    return all([name in entries and is_core_store(scheme.query, entries[name]) for name in value])


def _are_repairs(scheme, value):
    """Whether the value is a tuple of repairs."""
    told = _all_repairs(scheme)
    return isinstance(value, tuple) and all([any([is_same(part, repair) for repair in told]) for part in value])


def _is_size(value):
    return is_integer(value) and 0 <= value <= _MAX_SIZE


def _check_sizes(scheme, sizes):
    """Check a scheme, and the sizes for it."""
    check_scheme(scheme)
    told = _sized_roles(scheme)
    if not isinstance(sizes, dict) or len(sizes) != len(told) or not all([roles in sizes for roles in told]):
        raise InvalidOperation("not a dict from the roles of the plain stores of several roles")
    if not all([_is_size(sizes[roles]) for roles in told]):
        raise InvalidOperation("a size is not an integer from 0 to 10 ** 50")


def _check_position(scheme, value):
    if not _is_position(scheme, value):
        raise InvalidOperation("not an ascending tuple of stores of core roles")


def _check_task(scheme, sizes, sound, wanted):
    _check_sizes(scheme, sizes)
    _check_position(scheme, sound)
    _check_position(scheme, wanted)
