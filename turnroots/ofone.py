"""Whether two rearrangements are powers of one."""

from turnroots.errors import TooMany
from turnroots.past import go_past
from turnroots.rounds import home_of
from turnroots.turns import power_of, put_behind

MOST_THINGS = 8


def all_powers(p):
    return [power_of(p, k) for k in range(home_of(p))]


def told_as_powers(r, p, q):
    powers = all_powers(r)
    if p not in powers or q not in powers:
        return None
    return (r, powers.index(p), powers.index(q))


def powers_of_one(p, q):
    # Asked first, as it refuses what goes ahead of TooMany.
    are_past = go_past(p, q)
    if len(p) > MOST_THINGS:
        raise TooMany("more than 8 things")
    if not are_past:
        return None
    # Where p is the a-th power of r and q the b-th, both are powers of the d-th, d the greatest number
    # that parts a, b and home of r; and that one is itself some power of p behind some power of q.
    for one in all_powers(p):
        for other in all_powers(q):
            told = told_as_powers(put_behind(one, other), p, q)
            if told is not None:
                return told
    return None
