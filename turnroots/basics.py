"""What several modules need: whole numbers, rounds as they are walked, and ways to choose among them."""

from turnroots.errors import NoNumber, TooMany

MOST_TOLD = 2000


def is_whole(thing):
    # Python counts True and False among its ints; here they are no numbers.
    return isinstance(thing, int) and not isinstance(thing, bool)


def must_be_from_one(number):
    if not is_whole(number) or number < 1:
        raise NoNumber("a whole number from 1 on is asked for")


def must_be_few(many):
    if many > MOST_TOLD:
        raise TooMany("there are more than 2000 of them")


def greatest_part(a, b):
    while b != 0:
        rest = a % b
        a = b
        b = rest
    return a


def walk_ring(p, first):
    ring = [first]
    thing = p[first]
    while thing != first:
        ring.append(thing)
        thing = p[thing]
    return ring


def walk_rings(p):
    rings = []
    seen = {}
    # Each ring is met first at its least thing, so they come sorted.
    for first in range(len(p)):
        if first not in seen:
            ring = walk_ring(p, first)
            rings.append(ring)
            for thing in ring:
                seen[thing] = True
    return rings


def send_along(target, ring, steps):
    # Going round makes far and negative steps short ones: only the rest counts.
    for place, thing in enumerate(ring):
        target[thing] = ring[(place + steps) % len(ring)]


def send_over(target, ring, image):
    for thing, place in zip(ring, image):
        target[thing] = place


def sort_by_length(rings):
    by_length = {}
    for ring in rings:
        by_length.setdefault(len(ring), []).append(ring)
    return by_length


def picks_of(rings):
    # A ring may be begun at each of its things, and each beginning is a pick of its own.
    picks = []
    for at, ring in enumerate(rings):
        left = rings[:at] + rings[at + 1:]
        for begin in range(len(ring)):
            picks.append((ring[begin:] + ring[:begin], left))
    return picks


def lay_every_way(p, choices):
    # No two choices send the same thing, so each way of one goes with each way of the others.
    laid = [list(p)]
    for ways in choices:
        wider = []
        for turn in laid:
            for way in ways:
                told = list(turn)
                for thing in way:
                    told[thing] = way[thing]
                wider.append(told)
        laid = wider
    return sorted(laid)
