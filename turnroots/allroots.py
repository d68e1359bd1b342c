"""All m-th roots: counted without going through them, told sorted, each with its number."""

from turnroots.basics import greatest_part, is_whole, must_be_few, must_be_from_one
from turnroots.basics import lay_every_way, picks_of, send_along, sort_by_length, walk_rings
from turnroots.errors import NoNumber, NoRoot
from turnroots.hasroot import join_rings
from turnroots.turns import must_be_turn, must_fit


def right_numbers(length, m, most):
    return [d for d in range(1, most + 1) if greatest_part(d * length, m) == d]


def ways_to_follow(left, part, length):
    # Behind the first of the rings that are left, each place of its round
    # takes any ring that is still free, begun at any of its things.
    ways = 1
    for taken in range(1, part):
        ways = ways * (left - taken) * length
    return ways


def count_joins(length, many, m):
    right = right_numbers(length, m, many)
    counts = [1]
    for left in range(1, many + 1):
        ways = [ways_to_follow(left, part, length) * counts[left - part] for part in right if part <= left]
        counts.append(sum(ways))
    return counts[many]


def how_many_roots(p, m):
    must_be_turn(p)
    must_be_from_one(m)
    by_length = sort_by_length(walk_rings(p))
    many = 1
    for length in by_length:
        many = many * count_joins(length, len(by_length[length]), m)
    return many


def chains_of(rings, part):
    # Of the rings in one round the first is kept ahead: begun elsewhere, the round would be met again.
    chains = [([rings[0]], rings[1:])]
    for taken in range(1, part):
        longer = []
        for chain, left in chains:
            for ring, rest in picks_of(left):
                longer.append((chain + [ring], rest))
        chains = longer
    return chains


def ways_to_join(rings, right, m):
    if len(rings) == 0:
        return [{}]
    ways = []
    for part in right:
        if part <= len(rings):
            for chain, left in chains_of(rings, part):
                joined = join_rings(chain, m)
                for way in ways_to_join(left, right, m):
                    send_along(way, joined, 1)
                    ways.append(way)
    return ways


def all_roots(p, m):
    many = how_many_roots(p, m)
    must_be_few(many)
    # Where one length bars all roots, the other lengths may still have far too many ways to go through.
    if many == 0:
        return []
    by_length = sort_by_length(walk_rings(p))
    choices = []
    for length in by_length:
        rings = by_length[length]
        choices.append(ways_to_join(rings, right_numbers(length, m, len(rings)), m))
    return lay_every_way(p, choices)


def nth_root(p, m, k):
    roots = all_roots(p, m)
    if not is_whole(k) or k < 0 or k >= len(roots):
        raise NoNumber("there is no root of this number")
    return roots[k]


def number_of_root(p, m, r):
    must_be_turn(p)
    must_be_turn(r)
    must_be_from_one(m)
    must_fit(p, r)
    roots = all_roots(p, m)
    if r not in roots:
        raise NoRoot("this is no such root")
    return roots.index(r)
