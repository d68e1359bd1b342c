"""The m-th root that is home soonest, of all there are."""

from turnroots.errors import TooMany
from turnroots.hasroot import root_told
from turnroots.rounds import home_of

MOST_THINGS = 16


def soonest_root(p, m):
    # Asked first, as it refuses what goes ahead of TooMany.
    told = root_told(p, m)
    if len(p) > MOST_THINGS:
        raise TooMany("more than 16 things")
    if told[0] == "bars":
        return None
    # Rounds of length l come from rounds of length d times l, and the least right d parts every right one.
    # So home of the root that takes the least ones alone, as the told one does, parts home of any other root.
    return (home_of(told[1]), told[1])
