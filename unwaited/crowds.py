"""CROWDS: STEPS of which no two can share a CELL."""

from unwaited.forms import is_ascending, is_step, read_names
from unwaited.matchings import numbers
from unwaited.turns import Turns, lot_by


def is_crowd(loop, is_cut, thing):
    """Tells whether any value is a CROWD."""
    if not isinstance(thing, tuple) or not all([is_step(loop, step) for step in thing]):
        return False
    names = read_names(loop)
    if not all([name in names for name, _ in thing]) or not is_ascending(thing):
        return False
    return crowd_clash(loop, is_cut, thing) is None


def crowd_of(begins, ends):
    """Returns the ascending tuple of all STEPS (a, i) with begins[a] <= i < ends[a]."""
    return tuple([(name, at) for name in sorted(list(begins)) for at in range(begins[name], ends[name])])


def greatest_crowd(loop, is_cut):
    """Returns a CROWD with as many STEPS as fewest_cells says, None if this is None."""
    told = numbers(loop, is_cut)
    return None if told is None else crowd_of(told[0], told[1])


def growing_crowd(loop, name, many):
    """Returns the CROWD of the first so many STEPS of a READ task that does not lead back."""
    return tuple([(name, at) for at in range(many)])


def crowd_clash(loop, is_cut, steps):
    """Returns the least couple (one, other) of these ascending STEPS of READ tasks such that one has its TURN ahead
    of other, None if there is none."""
    turns = Turns(loop, lot_by(loop, is_cut))
    for a, i in steps:
        for b, j in steps:
            if turns.has_turn(a, b, j - i):
                return ((a, i), (b, j))
    return None
