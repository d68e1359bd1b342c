"""The rounds of a rearrangement, and the rearrangement of rounds."""

from turnroots.basics import greatest_part, send_along, walk_rings
from turnroots.errors import NoRounds
from turnroots.turns import is_turn, must_be_turn


def rounds_of(p):
    must_be_turn(p)
    return walk_rings(p)


def kind_of(p):
    return sorted([len(ring) for ring in rounds_of(p)], reverse=True)


def home_of(p):
    home = 1
    for length in kind_of(p):
        home = home // greatest_part(home, length) * length
    return home


def are_filled_lists(rounds):
    if not isinstance(rounds, list):
        return False
    for ring in rounds:
        if not isinstance(ring, list) or len(ring) == 0:
            return False
    return True


def things_in(rounds):
    things = []
    for ring in rounds:
        things.extend(ring)
    return things


def from_rounds(rounds):
    if not are_filled_lists(rounds):
        raise NoRounds("rounds are lists of at least one thing each, in a list")
    told = things_in(rounds)
    # Set side by side, rounds hold just what a rearrangement holds, its bound too.
    if not is_turn(told):
        raise NoRounds("rounds have each number from 0 to n - 1 once, n at most 40")
    for ring in rounds:
        send_along(told, ring, 1)
    return told
