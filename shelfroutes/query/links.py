"""Rows and matches that fit one another, found by the integers that the tests compare."""


class Partners:
    """Matches of some roles, ready to be found by matches of other roles: those for which all tests between them hold.

    Matches are written as the tuples of the keys of their rows, `placed` gives the pair (table, row) of each key.
    """

    def __init__(self, query, placed, roles, others, found):
        here, there = _links(query, roles, others)
        self._here = here
        self._placed = placed
        self._found = {}
        for match in found:
            self._found.setdefault(_entries(placed, match, there), []).append(match)

    def of_match(self, match):
        """The list of the matches that fit a match of the first roles."""
        return self._found.get(_entries(self._placed, match, self._here), [])


def put_in_order(roles, others):
    """For each of the roles of two tuples, ascending, its index in the first tuple followed by the other one."""
    mixed = roles + others
    return [mixed.index(role) for role in sorted(mixed)]


def _links(query, roles, others):
    """The places of the integers that tests compare, in the matches of the roles and in those of the others.

    A place is the index of a row in a match, and the index of an integer in this row.
    """
    here = []
    there = []
    for role, column, other, opposite in query.tests:
        if role in roles and other in others:
            here.append(_place(query, roles, role, column))
            there.append(_place(query, others, other, opposite))
        elif other in roles and role in others:
            here.append(_place(query, roles, other, opposite))
            there.append(_place(query, others, role, column))
    return here, there


def _place(query, roles, role, column):
    return roles.index(role), query.columns_of(role).index(column)


def _entries(placed, match, places):
    """The integers at some places of a match."""
    return tuple([placed[match[at]][1][index] for at, index in places])
