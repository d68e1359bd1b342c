"""Rearrangements: what one is, one behind another, the way back, powers."""

from turnroots.basics import is_whole, send_along, walk_rings
from turnroots.errors import NoFit, NoTurn

MOST_THINGS = 40


def is_turn(thing):
    if not isinstance(thing, list) or len(thing) > MOST_THINGS:
        return False
    seen = {}
    for place in thing:
        # The kind is asked first: what is no number may not be compared or looked up.
        if not is_whole(place) or place < 0 or place >= len(thing) or place in seen:
            return False
        seen[place] = True
    return True


def must_be_turn(thing):
    if not is_turn(thing):
        raise NoTurn("no rearrangement of 0 to 40 things")


def must_fit(p, q):
    if len(p) != len(q):
        raise NoFit("the two are of unlike many things")


def put_behind(p, q):
    must_be_turn(p)
    must_be_turn(q)
    must_fit(p, q)
    return [p[place] for place in q]


def way_back(p):
    return power_of(p, -1)


def power_of(p, k):
    must_be_turn(p)
    told = list(p)
    for ring in walk_rings(p):
        send_along(told, ring, k)
    return told
