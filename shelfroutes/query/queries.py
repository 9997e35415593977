"""Queries: tables, core roles, side roles, and tests between their columns."""

from shelfroutes.base.names import MAX_COLUMNS, ascends, is_ascending, is_integer, is_name, is_row, is_tuple
from shelfroutes.errors import InvalidNumber, InvalidOperation, InvalidQuery, InvalidRow, InvalidTable, UnknownName

MAX_TABLES = 6
MAX_CORE = 4
MAX_SIDE = 2
MAX_TESTS = 20
_MAX_SAMPLE = 9
_SORTS = ("core", "none", "optional", "some")


class Query:
    """A query; it never changes."""

    def __init__(self, tables, tests=(), **roles):
        self._keep(tables, tests, roles)

    @classmethod
    def of(cls, tables, tests, roles):
        """The query with a dict of roles, whatever they are called."""
        # Roles called `self`, `tables` or `tests` cannot be keywords: they replace those of another query.
        made = cls({"a": ("a",)}, (), a=("core", "a"))
        made._keep(tables, tests, roles)
        return made

    def _keep(self, tables, tests, roles):
        if not _is_tables(tables):
            raise InvalidTable("not a dict from one to six names to columns")
        if not _is_rest(tables, tests, roles):
            raise InvalidQuery("roles and tests do not make a query of these tables")
        self._tables = {name: tables[name] for name in sorted(tables)}
        self._roles = {role: roles[role] for role in sorted(roles)}
        self._tests = tests
        self._core = tuple([role for role in self._roles if self._roles[role][0] == "core"])
        self._sides = tuple([role for role in self._roles if self._roles[role][0] != "core"])
        self._ties = {side: self._roles_tied_to(side) for side in self._sides}

    def _roles_tied_to(self, side):
        return tuple([role for role in self._core if self.pairs(side, role) != ()])

    @staticmethod
    def is_sort(value):
        """Whether the value is one of the four sorts of roles."""
        return value in _SORTS

    @property
    def tables(self):
        """A dict from the names of the tables to their columns."""
        return {name: self._tables[name] for name in self._tables}

    @property
    def roles(self):
        """A dict from the roles to their pairs of a sort and a table."""
        return {role: self._roles[role] for role in self._roles}

    @property
    def tests(self):
        """The ascending tuple of the tests."""
        return self._tests

    @property
    def core(self):
        """The ascending tuple of the core roles."""
        return self._core

    @property
    def sides(self):
        """The ascending tuple of the side roles."""
        return self._sides

    @property
    def optional(self):
        """The optional role, or None."""
        for role in self._sides:
            if self._roles[role][0] == "optional":
                return role
        return None

    def __getitem__(self, at):
        if at not in self:
            raise UnknownName(at)
        return self._roles[at]

    def __iter__(self):
        raise TypeError("a query is not iterated over")

    def __contains__(self, x):
        return is_name(x) and x in self._roles

    def __len__(self):
        return len(self._roles)

    def __eq__(self, other):
        return (isinstance(other, Query) and self._tables == other._tables
                and self._roles == other._roles and self._tests == other._tests)

    def __str__(self):
        return f"query of {len(self._core)} core roles, {len(self._sides)} side roles, {len(self._tests)} tests"

    def sort_of(self, role):
        """The sort of a role."""
        return self[role][0]

    def table_of(self, role):
        """The table of a role."""
        return self[role][1]

    def columns_of(self, role):
        """The columns of the table of a role."""
        return self._tables[self[role][1]]

    def played(self, table):
        """The ascending tuple of the roles of a table."""
        if not is_name(table) or table not in self._tables:
            raise UnknownName(table)
        return tuple([role for role in self._roles if self._roles[role][1] == table])

    def ties(self, role):
        """The ascending tuple of the core roles with which a side role has tests."""
        if self.sort_of(role) == "core":
            raise InvalidOperation("a core role has no ties")
        return self._ties[role]

    def pairs(self, role, other):
        """The ascending tuple of the pairs of columns of two roles that tests compare."""
        for name in (role, other):
            if name not in self:
                raise UnknownName(name)
        found = []
        for one, column, two, opposite in self._tests:
            if (one, two) == (role, other):
                found.append((column, opposite))
            elif (one, two) == (other, role):
                found.append((opposite, column))
        return tuple(sorted(found))

    def accepts(self, rows):
        """Whether all tests hold between the rows of some roles."""
        if not isinstance(rows, dict) or not all([self._is_row_of(role, rows[role]) for role in rows]):
            raise InvalidRow("not a dict from roles to rows of their tables")
        for one, column, two, opposite in self._tests:
            if one in rows and two in rows:
                if self._entry(rows, one, column) != self._entry(rows, two, opposite):
                    return False
        return True

    def _is_row_of(self, role, value):
        """Whether the first value is a role, and the second one a row of its table."""
        return role in self and is_row(value) and len(value) == len(self.columns_of(role))

    def _entry(self, rows, role, column):
        return rows[role][self.columns_of(role).index(column)]

    def sample(self, many):
        """Rows for which all tests hold, with as few equal integers as this allows: one of each core role."""
        if not is_integer(many) or not 0 <= many <= _MAX_SAMPLE:
            raise InvalidNumber(many)
        groups = _groups(self._tests)
        given = {}
        rows = {}
        for role in self._roles:
            times = 1 if role in self._core else many
            rows[role] = tuple([self._sample_row(role, at, groups, given) for at in range(times)])
        return rows

    def _sample_row(self, role, at, groups, given):
        """Row number `at` of a role; `given` keeps the integers that were given out."""
        row = []
        for column in self.columns_of(role):
            place = (role, column)
            # Tests make a column equal in all rows of its role, others get an integer for each row.
            where = (groups[place], 0) if place in groups else (place, at)
            row.append(given.setdefault(where, len(given) + 1))
        return tuple(row)

    def without(self, role):
        """The query without a role and its tests."""
        if role not in self:
            raise UnknownName(role)
        roles = {name: self._roles[name] for name in self._roles if name != role}
        tests = tuple([test for test in self._tests if role not in (test[0], test[2])])
        if not _is_rest(self._tables, tests, roles):
            raise InvalidOperation("what is left is no query")
        return Query.of(self._tables, tests, roles)

    def is_within(self, other):
        """Whether the other query has the same tables, and all roles and tests of this one."""
        if not isinstance(other, Query):
            raise InvalidOperation("not a query")
        if self._tables != other._tables:
            return False
        has_roles = all([other._roles.get(role) == self._roles[role] for role in self._roles])
        return has_roles and all([test in other._tests for test in self._tests])


def is_table(query, value):
    """Whether the value is one of the tables of a query."""
    return is_name(value) and value in query.tables


def is_row_of(query, table, value):
    """Whether the value is a row of a table of a query."""
    return is_row(value) and len(value) == len(query.tables[table])


def is_ascending_roles(query, value):
    """Whether the value is an ascending tuple of one or more roles of a query, at most one of them a side role."""
    if not is_ascending(value, 1, MAX_CORE + 1) or not all([role in query for role in value]):
        return False
    return len([role for role in value if role in query.sides]) <= 1


def _is_tables(value):
    if not isinstance(value, dict) or not 1 <= len(value) <= MAX_TABLES:
        return False
    return all([is_name(name) and _is_columns(value[name]) for name in value])


def _is_columns(value):
    return is_ascending(value, 1, MAX_COLUMNS)


def _is_rest(tables, tests, roles):
    """Whether roles and tests make a query of these tables."""
    return (_is_roles(tables, roles) and _is_tests(tables, roles, tests)
            and _are_sides_tested(roles, tests) and _are_side_columns_single(roles, tests))


def _is_roles(tables, value):
    if not isinstance(value, dict):
        return False
    if not all([is_name(role) and _is_role(tables, value[role]) for role in value]):
        return False
    sorts = [value[role][0] for role in value]
    many_core = sorts.count("core")
    most_sides = 1 if "optional" in sorts else MAX_SIDE
    return 1 <= many_core <= MAX_CORE and len(sorts) - many_core <= most_sides


def _is_role(tables, value):
    """Whether the value is a pair of a sort and one of the tables."""
    if not is_tuple(value, 2, 2):
        return False
    sort, table = value
    return Query.is_sort(sort) and is_name(table) and table in tables


def _is_tests(tables, roles, value):
    if not is_tuple(value, 0, MAX_TESTS):
        return False
    return all([_is_test(tables, roles, test) for test in value]) and ascends(value)


def _is_test(tables, roles, value):
    """Whether the value compares a column of a core role with one of another role."""
    if not is_tuple(value, 4, 4) or not all([is_name(part) for part in value]):
        return False
    role, column, other, opposite = value
    if role not in roles or other not in roles or role >= other:
        return False
    if column not in tables[roles[role][1]] or opposite not in tables[roles[other][1]]:
        return False
    return "core" in (roles[role][0], roles[other][0])


def _are_sides_tested(roles, tests):
    """Whether each side role has at least one test."""
    tested = [test[0] for test in tests] + [test[2] for test in tests]
    return all([role in tested for role in roles if roles[role][0] != "core"])


def _are_side_columns_single(roles, tests):
    """Whether each column of a table of a side role stands in at most one place in all tests."""
    side_tables = [roles[role][1] for role in roles if roles[role][0] != "core"]
    places = [(roles[test[0]][1], test[1]) for test in tests] + [(roles[test[2]][1], test[3]) for test in tests]
    return all([places.count(place) == 1 for place in places if place[0] in side_tables])


def _groups(tests):
    """For each place (role, column) in the tests one that stands for all places that they make equal to it."""
    groups = {}
    for role, column, other, opposite in tests:
        one = groups.setdefault((role, column), (role, column))
        two = groups.setdefault((other, opposite), (other, opposite))
        for place in list(groups):
            if groups[place] == two:
                groups[place] = one
    return groups
