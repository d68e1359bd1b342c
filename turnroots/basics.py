"""What several modules need: whole numbers, and rounds as they are walked."""

from turnroots.errors import NoNumber


def is_whole(thing):
    # Python counts True and False among its ints; here they are no numbers.
    return isinstance(thing, int) and not isinstance(thing, bool)


def must_be_from_one(number):
    if not is_whole(number) or number < 1:
        raise NoNumber("a whole number from 1 on is asked for")


def greatest_part(a, b):
    while b != 0:
        rest = a % b
        a = b
        b = rest
    return a


def walk_ring(p, first):
    ring = [first]
    thing = p[first]
    while thing != first:
        ring.append(thing)
        thing = p[thing]
    return ring


def walk_rings(p):
    rings = []
    seen = {}
    # Each ring is met first at its least thing, so they come sorted.
    for first in range(len(p)):
        if first not in seen:
            ring = walk_ring(p, first)
            rings.append(ring)
            for thing in ring:
                seen[thing] = True
    return rings


def send_along(target, ring, steps):
    # Going round makes far and negative steps short ones: only the rest counts.
    for place, thing in enumerate(ring):
        target[thing] = ring[(place + steps) % len(ring)]
