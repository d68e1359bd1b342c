"""Whether a rearrangement has an m-th root: one root, or the rounds that bar it."""

from turnroots.basics import greatest_part, must_be_from_one, sort_by_length
from turnroots.rounds import from_rounds, rounds_of


def least_right(l, m):
    must_be_from_one(l)
    must_be_from_one(m)
    # d is right just where it parts m and m // d has nothing in common with l.
    # So the least one takes from m all that m shares with l, and no more.
    least = 1
    common = greatest_part(l, m)
    while common > 1:
        least = least * common
        common = greatest_part(l, m // least)
    return least


def join_rings(rings, m):
    # m steps along the joined ring must be one step along a ring that went into it,
    # so the things of one ring are laid m places apart.
    whole = len(rings) * len(rings[0])
    joined = [0] * whole
    for lane, ring in enumerate(rings):
        for step, thing in enumerate(ring):
            joined[(lane + step * m) % whole] = thing
    return joined


def root_told(p, m):
    by_length = sort_by_length(rounds_of(p))
    must_be_from_one(m)
    joined = []
    for length in sorted(by_length):
        rings = by_length[length]
        many = len(rings)
        least = least_right(length, m)
        if many % least != 0:
            return ("bars", length, many, least)
        for begin in range(0, many, least):
            joined.append(join_rings(rings[begin:begin + least], m))
    return ("root", from_rounds(joined))
