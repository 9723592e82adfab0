"""RINGS OF CELLS, the KEEPINGS that they MAKE, and MATCHINGS."""

from math import lcm

from unwaited.forms import is_ascending, is_count, is_tuple_of, read_names
from unwaited.turns import Turns, lot_by, shifts


def circles_of(matching):
    """Returns a list of the circles of a MATCHING: lists of names, each from its least one on, in their order."""
    circles = []
    gone = {}
    for first in sorted(list(matching)):
        circle = []
        name = first
        while name not in gone:
            gone[name] = True
            circle.append(name)
            name = matching[name]
        if len(circle) > 0:
            circles.append(circle)
    return circles


def ring_of(circle, steps_on):
    """Returns the RING OF CELLS of a circle, steps_on being the SHIFTS from each name to the next one."""
    size = sum(steps_on)
    members = []
    offset = 0
    for name, s in zip(circle, steps_on):
        members.append((name, offset % size))
        offset += s
    return (size, tuple(sorted(members)))


def rings_of(loop, matching, is_cut):
    """Returns the RINGS of a MATCHING."""
    least = shifts(loop, is_cut)
    return tuple([ring_of(circle, [least[(name, matching[name])] for name in circle])
                  for circle in circles_of(matching)])


def is_member(thing, names, size):
    """Tells whether any value is a tuple of one of these names and an offset below size."""
    return is_tuple_of(thing, 2) and thing[0] in names and is_count(thing[1]) and thing[1] < size


def is_ring_of_cells(thing, names):
    """Tells whether any value is a RING OF CELLS with at least one member, all of these names."""
    if not is_tuple_of(thing, 2) or not is_count(thing[0]) or not isinstance(thing[1], tuple) or len(thing[1]) == 0:
        return False
    return all([is_member(member, names, thing[0]) for member in thing[1]]) and is_ascending(thing[1])


def are_rings(loop, thing):
    """Tells whether any value is RINGS."""
    names = read_names(loop)
    if not isinstance(thing, tuple) or not all([is_ring_of_cells(ring, names) for ring in thing]):
        return False
    members = [name for _, ring in thing for name, _ in ring]
    return len(set(members)) == len(members)


def members_in_turn(turns, ring):
    """Returns the list of the members of a RING OF CELLS in the order of their offsets, those with one offset in
    the order of their TURNS, if they have one."""
    ranks = sorted([(offset, turns.rank_of(name), name) for name, offset in ring[1]])
    return [(name, offset) for offset, _, name in ranks]


def is_right_ring(turns, ring):
    """Tells whether along a RING OF CELLS each STEP has its TURN ahead of the next one in its place."""
    size, _ = ring
    members = members_in_turn(turns, ring)
    first, offset = members[0]
    behind = [*members[1:], (first, offset + size)]
    return all([turns.has_turn(a, b, then - at) for (a, at), (b, then) in zip(members, behind)])


def are_right_rings(loop, is_cut, thing):
    """Tells whether any value is RINGS that are RIGHT."""
    # Place by place nothing is asked: in each one the same comes, only some rounds later. So sizes may be any.
    if not are_rings(loop, thing):
        return False
    turns = Turns(loop, lot_by(loop, is_cut))
    return all([is_right_ring(turns, ring) for ring in thing])


def cells_of_rings(rings):
    """Returns the sum of the sizes."""
    return sum([size for size, _ in rings])


def place_of(rings, step):
    """Returns the tuple (index, place) of the RING OF CELLS that has the STEP's task, and of its place; None if
    there is none."""
    for index, (size, members) in enumerate(rings):
        for name, offset in members:
            if name == step[0]:
                return (index, (step[1] - offset) % size)
    return None


def keeping_of_rings(loop, rings):
    """Returns the KEEPING that RINGS MAKE."""
    period = 1
    for size, _ in rings:
        period = lcm(period, size)
    rows = {name: (None,) * period for name in read_names(loop)}
    base = 0
    for size, members in rings:
        for name, offset in members:
            rows[name] = tuple([base + (at - offset) % size for at in range(size)]) * (period // size)
        base += size
    return (period, rows)


def matching_of_rings(loop, rings, is_cut):
    """Returns the MATCHING of RINGS that are RIGHT: from each member to the one whose STEP is next in its place."""
    turns = Turns(loop, lot_by(loop, is_cut))
    matching = {}
    for ring in rings:
        members = [name for name, _ in members_in_turn(turns, ring)]
        for name, behind in zip(members, [*members[1:], members[0]]):
            matching[name] = behind
    return {name: matching[name] for name in sorted(list(matching))}
