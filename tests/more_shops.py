"""More schemes for the tests, as texts."""

from shelfroutes.text.texts import read_scheme

# Each row of `c` is in one of two stores, the one of the plan at which it arrived. Right, but not locally.
SPLIT_TEXT = """table cus code
table ord code
role c core cus
role o core ord
test c.code = o.code
store sa c
store sb c
store so o
plan p
add c: update sa, join so, emit
add o: update so, join sa, emit
add o: join sb, emit
remove c: update sa, update sb, join so, emit
remove o: update so, join sa, emit
remove o: join sb, emit
plan q
add c: update sb, join so, emit
add o: update so, join sa, emit
add o: join sb, emit
remove c: update sa, update sb, join so, emit
remove o: update so, join sa, emit
remove o: join sb, emit
switch p q:
switch q p:
first p"""

# The plan `lazy` has a lazy store over a store that the transition to it fills, in different orders.
LAZY_TEXT = """table cus code
table item code
table ord code item
table zone code
role c core cus
role i core item
role o core ord
role z core zone
test c.code = o.code
test c.code = z.code
test i.code = o.item
lazy lcio c i o by o.item from sco si
store sc c
store sco c o
store si i
store so o
store sz z
plan flat
add c: update sc, join so, join si, join sz, emit
add i: update si, join so, join sc, join sz, emit
add o: update so, join sc, join si, join sz, emit
add z: update sz, join sc, join so, join si, emit
remove c: update sc, join so, join si, join sz, emit
remove i: update si, join so, join sc, join sz, emit
remove o: update so, join sc, join si, join sz, emit
remove z: update sz, join sc, join so, join si, emit
plan lazy
add c: update sc, join so, update sco, join si, update lcio, join sz, emit
add i: update si, join sco, update lcio, join sz, emit
add o: update so, join sc, update sco, join si, update lcio, join sz, emit
add z: update sz, join lcio, emit
remove c: update sc, join so, update sco, join si, update lcio, join sz, emit
remove i: update si, join sco, update lcio, join sz, emit
remove o: update so, join sc, update sco, join si, update lcio, join sz, emit
remove z: update sz, join lcio, emit
switch flat lazy: clear lcio, fill sco sc so
switch lazy flat:
first flat"""


def split():
    return read_scheme(SPLIT_TEXT)


def lazy_one(steps="clear lcio, fill sco sc so"):
    return read_scheme(LAZY_TEXT.replace(" clear lcio, fill sco sc so", " " + steps if steps else ""))


def crowded():
    """A right scheme from trees with more than 20000 reached and meant snapshots: five lazy stores that nothing uses."""
    lines = ["table cus code", "table item code", "table ord code item", "role c core cus", "role i core item",
             "role o core ord", "test c.code = o.code", "test i.code = o.item"]
    lines += [f"lazy l{letter} c o by c.code from sc so" for letter in "abcdefghij"]
    lines += ["store sc c", "store so o", "plan p", "first p"]
    return read_scheme("\n".join(lines))
