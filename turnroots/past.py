"""What goes past a rearrangement, things named anew, and families of roots."""

from turnroots.allroots import all_roots
from turnroots.basics import lay_every_way, must_be_few, picks_of, send_over, sort_by_length, walk_rings
from turnroots.rounds import kind_of
from turnroots.turns import must_be_turn, must_fit, put_behind


def go_past(p, q):
    return put_behind(p, q) == put_behind(q, p)


def how_many_past(p):
    must_be_turn(p)
    by_length = sort_by_length(walk_rings(p))
    many = 1
    for length in by_length:
        for free in range(1, len(by_length[length]) + 1):
            many = many * length * free
    return many


def ways_over(rings, images):
    if len(rings) == 0:
        return [{}]
    ways = []
    for image, left in picks_of(images):
        for way in ways_over(rings[1:], left):
            send_over(way, rings[0], image)
            ways.append(way)
    return ways


def all_past(p):
    must_be_few(how_many_past(p))
    by_length = sort_by_length(walk_rings(p))
    return lay_every_way(p, [ways_over(by_length[length], by_length[length]) for length in by_length])


def named_anew(p, q):
    must_be_turn(p)
    must_be_turn(q)
    must_fit(p, q)
    if kind_of(p) != kind_of(q):
        return None
    images = sort_by_length(walk_rings(q))
    by_length = sort_by_length(walk_rings(p))
    told = list(p)
    # Rings come sorted and begun at their least things, so the first free thing gets the least name that is free.
    for length in by_length:
        for ring, image in zip(by_length[length], images[length]):
            send_over(told, ring, image)
    return told


def root_families(p, m):
    # Roots are in one family just where they are of one kind: so what goes past p, perhaps far too many, isn't needed.
    families = {}
    for root in all_roots(p, m):
        families.setdefault(tuple(kind_of(root)), []).append(root)
    # The roots came sorted, so each family is, and the families stand by their first roots.
    return list(families.values())
