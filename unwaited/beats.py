"""BEATS, PLANS for so many workers, and the PACE: how many beats a LOOP needs a round."""

from itertools import combinations

from unwaited.arcs import arcs_by_earlier, arcs_by_later, arcs_of, is_ring, least_ring
from unwaited.forms import has_just_keys, is_ascending, is_integer, is_step, is_tuple_of, names_in_order, names_of
from unwaited.fractions import compared, reduced
from unwaited.paths import sum_of
from unwaited.runs import Window, are_ahead, orders_many, window_of
from unwaited.sums import names_to


def beat_rows(loop, names, rounds):
    """Returns the dict from these names, to which no ARCS lead from other ones, to the lists of the BEATS of their
    STEPS with rounds below this number."""
    arcs = arcs_by_later(loop)
    order = [name for name in names_in_order(loop) if name in names]
    rows = {name: [] for name in order}
    for at in range(rounds):
        for name in order:
            beats = [rows[earlier][at - d] + 1 for earlier, _, d in arcs[name] if d <= at]
            rows[name].append(max(beats, default=0))
    return rows


def beat_of(loop, step):
    """Returns the BEAT of a STEP."""
    name, at = step
    return beat_rows(loop, names_to(loop, name), at + 1)[name][at]


def beats_of(loop, rounds):
    """Returns the PLAN, for any number of workers, in which each STEP stands at the index that is its BEAT."""
    rows = beat_rows(loop, names_of(loop), rounds)
    plan = []
    for name, at in window_of(loop, rounds):
        while len(plan) <= rows[name][at]:
            plan.append([])
        plan[rows[name][at]].append((name, at))
    return tuple([tuple(steps) for steps in plan])


def are_fellows(loop, workers, thing):
    """Tells whether any value is an ascending tuple of STEPS, at least one and at most so many."""
    if not isinstance(thing, tuple) or not 1 <= len(thing) <= workers:
        return False
    return all([is_step(loop, step) for step in thing]) and is_ascending(thing)


def is_plan(loop, rounds, workers, thing):
    """Tells whether any value is a PLAN of WINDOW rounds for so many workers."""
    if not isinstance(thing, tuple) or not all([are_fellows(loop, workers, steps) for steps in thing]):
        return False
    arcs = arcs_by_later(loop)
    done = {}
    for steps in thing:
        if not all([step[1] < rounds and step not in done and are_ahead(arcs, step, done) for step in steps]):
            return False
        for step in steps:
            done[step] = True
    return len(done) == len(names_of(loop)) * rounds


def heights_of(loop, rounds):
    """Returns the dict from the STEPS of a WINDOW to the greatest number of ARCS of a PATH that leads from them
    within the WINDOW."""
    arcs = arcs_by_earlier(loop)
    heights = {}
    for at in reversed(range(rounds)):
        for name in names_in_order(loop)[::-1]:
            behind = [heights[(later, at + d)] + 1 for _, later, d in arcs[name] if at + d < rounds]
            heights[(name, at)] = max(behind, default=0)
    return heights


def plan_by_heights(loop, rounds, workers):
    """Returns the PLAN in which of those that are ready those come first from which the longest PATHS lead."""
    window = Window(loop, rounds)
    heights = heights_of(loop, rounds)
    plan = []
    done = 0
    free = window.first_free()
    while free:
        ranks = sorted([(-heights[window.steps[number]], number) for number in free])
        numbers = sorted([number for _, number in ranks[:workers]])
        plan.append(tuple([window.steps[number] for number in numbers]))
        done = window.joined(done, numbers)
        free = window.then_free(done, free, numbers)
    return tuple(plan)


def beats_at_least(loop, rounds, workers):
    """Returns a number of beats that each PLAN needs: for each height, till all STEPS that are as high, or higher,
    are done, and then as many as the height."""
    heights = list(heights_of(loop, rounds).values())
    needed = 0
    for height in sorted(set(heights)):
        many = len([other for other in heights if other >= height])
        needed = max(needed, height + (many + workers - 1) // workers)
    return needed


def some_of(numbers, many):
    """Returns the list of all ways to take so many of some numbers."""
    return list(combinations(numbers, many))


def next_sets(window, workers, sets, seen):
    """Returns the dict from the sets that come of these by one beat more, and are not among seen, to what is ready
    then. Nobody is idle where something is ready: to do a STEP earlier than need be is never a loss."""
    farther = {}
    for done, free in sets.items():
        for numbers in some_of(free, min(workers, len(free))):
            more = window.joined(done, numbers)
            if more not in farther and more not in seen:
                farther[more] = window.then_free(more, free, numbers)
    return farther


def fewest_beats(loop, rounds, workers):
    """Returns the least length of a PLAN; raises TooMany(20000) as orders_many does."""
    orders_many(loop, rounds)
    most = len(plan_by_heights(loop, rounds, workers))
    if beats_at_least(loop, rounds, workers) == most:
        return most
    window = Window(loop, rounds)
    whole = (1 << len(window.steps)) - 1
    sets = {0: window.first_free()}
    seen = {}
    beats = 0
    while whole not in sets:
        for done in sets:
            seen[done] = True
        sets = next_sets(window, workers, sets, seen)
        beats += 1
    return beats


def greatest_pace(loop, name):
    """Returns the greatest FRACTION of ARCS divided by their SUM of the RINGS from a task to itself that have no
    more ARCS than there are tasks; (0, 1) if there is none."""
    arcs = arcs_of(loop)
    best = (0, 1)
    least = {name: 0}
    for many in range(1, len(loop[0]) + 1):
        farther = {}
        for earlier, later, d in arcs:
            if earlier in least:
                farther[later] = min(least[earlier] + d, farther.get(later, least[earlier] + d))
        least = farther
        if name in least and compared((many, least[name]), best) > 0:
            best = reduced(many, least[name])
    return best


def pace(loop):
    """Returns the PACE."""
    # A RING with more ARCS is made of such ones, and one of these has no less ARCS for its SUM.
    best = (0, 1)
    for name in names_of(loop):
        one = greatest_pace(loop, name)
        if compared(one, best) > 0:
            best = one
    return best


def heights_by(loop, fraction):
    """Returns the dict of the least heights from 0 on that a PACE PAPER of this PACE can have."""
    num, den = fraction
    heights = {name: 0 for name in names_of(loop)}
    for _ in loop[0]:
        for earlier, later, d in arcs_of(loop):
            heights[later] = max(heights[later], heights[earlier] + den - num * d)
    return heights


def pace_ring(loop):
    """Returns the RING that has the PACE and the fewest ARCS, of these the least; None if there is no RING."""
    num, den = pace(loop)
    heights = heights_by(loop, (num, den))
    # Along a RING of the PACE no ARC has anything to spare; and a RING of such ARCS has the PACE.
    return least_ring([arc for arc in arcs_of(loop) if heights[arc[1]] == heights[arc[0]] + den - num * arc[2]])


def pace_paper(loop):
    """Returns a PACE PAPER with the ring of pace_ring."""
    return (pace_ring(loop), heights_by(loop, pace(loop)))


def is_pace_paper(loop, thing):
    """Tells whether any value is a PACE PAPER."""
    if not is_tuple_of(thing, 2) or not has_just_keys(thing[1], names_of(loop)):
        return False
    ring, heights = thing
    if not all([is_integer(height) for height in heights.values()]):
        return False
    if ring is not None and not is_ring(loop, ring):
        return False
    # Where there is a RING, no heights will do for None.
    num, den = (0, 1) if ring is None else reduced(len(ring), sum_of(ring))
    return all([heights[later] >= heights[earlier] + den - num * d for earlier, later, d in arcs_of(loop)])
