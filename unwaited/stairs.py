"""STAIR: the greatest SHARE for any number of CELLS; its CORNERS, and PRICES that tell that there is no greater."""

from unwaited.forms import has_just_keys, is_fraction, is_tuple_of, read_names
from unwaited.fractions import added, compared, lessened, reduced, times
from unwaited.matchings import assigned, cells_by
from unwaited.turns import shifts


def gains_by(least, worths, slope):
    """Returns the dict from all couples that have a SHIFT to the worth of the first one less slope, (p, q), for
    each CELL, times q."""
    p, q = slope
    return {(a, b): q * worths[a] - p * s for (a, b), s in least.items()}


def costs_of(names, gains):
    """Returns the rows of costs of all MATCHINGS of some of these names, for assigned: what is in none of them
    stands as its own value for nothing, as does what had better be in none."""
    costs = []
    for a in names:
        row = [-gains[(a, b)] if (a, b) in gains else None for b in names]
        own = names.index(a)
        row[own] = min(0, row[own]) if row[own] is not None else 0
        costs.append(row)
    return costs


def top_matching(least, worths, slope, has_most):
    """Returns the MATCHING with the greatest worth less slope for each CELL, of these one with the most CELLS, if
    has_most, otherwise one with the fewest."""
    names = sorted(list(worths))
    # Greater than all CELLS together, so that these count less than anything else.
    weight = sum(list(least.values())) + 1
    gains = {}
    for couple, gain in gains_by(least, worths, slope).items():
        gains[couple] = gain * weight + (least[couple] if has_most else -least[couple])
    columns = assigned(costs_of(names, gains))
    couples = [(a, names[column]) for a, column in zip(names, columns)]
    return {a: b for a, b in couples if a != b or gains.get((a, a), 0) > 0}


def point_of(least, worths, matching):
    """Returns the point of a MATCHING."""
    return (cells_by(least, matching), sum([worths[name] for name in matching]))


def corners_by(least, worths):
    """Returns the list of the CORNERS for this dict of all SHIFTS."""
    points = [(0, 0)]
    last = point_of(least, worths, top_matching(least, worths, (0, 1), False))
    # Still to come, the next one last: between two of them there may be more.
    left = [last] if last != (0, 0) else []
    while left:
        cells = left[-1][0] - points[-1][0]
        worth = left[-1][1] - points[-1][1]
        top = point_of(least, worths, top_matching(least, worths, (worth, cells), False))
        if (top[1] - points[-1][1]) * cells > worth * (top[0] - points[-1][0]):
            left.append(top)
        else:
            points.append(left.pop())
    return points


def corners(loop, worths, is_cut):
    """Returns the ascending tuple of the CORNERS."""
    return tuple(corners_by(shifts(loop, is_cut), worths))


def corner_matching(loop, worths, cells, is_cut):
    """Returns a MATCHING whose point is the CORNER with so many CELLS."""
    least = shifts(loop, is_cut)
    points = corners_by(least, worths)
    place = [point[0] for point in points].index(cells)
    if place == 0:
        return {}
    # Of all that touch the line from the CORNER ahead, the one at its end.
    before, corner = points[place - 1], points[place]
    return top_matching(least, worths, (corner[1] - before[1], corner[0] - before[0]), True)


def line_at(points, m):
    """Returns the last CORNER with at most m CELLS, and how STAIR goes on behind it: a tuple (worth, cells)."""
    place = len([point for point in points if point[0] <= m]) - 1
    if place == len(points) - 1:
        return (points[place], (0, 1))
    corner, behind = points[place], points[place + 1]
    return (corner, (behind[1] - corner[1], behind[0] - corner[0]))


def stair(loop, worths, m, is_cut):
    """Returns STAIR(m)."""
    (cells, worth), (rise, run) = line_at(corners(loop, worths, is_cut), m)
    return reduced(worth * run + rise * (m - cells), run)


def cells_for(loop, worths, share, is_cut):
    """Returns the least m such that STAIR(m) is not less than a share, None if there is none."""
    if share[0] <= 0:
        return 0
    n, d = share
    points = corners(loop, worths, is_cut)
    for (cells, worth), (far, top) in zip(points, points[1:]):
        if top * d >= n:
            # Rounded up: what is left of share above the CORNER, by what STAIR rises for a CELL.
            return cells - (worth * d - n) * (far - cells) // (d * (top - worth))
    return None


def prices_by(least, worths, m):
    """Returns PRICES whose SUM for m is STAIR(m), for this dict of all SHIFTS."""
    names = sorted(list(worths))
    _, (p, q) = line_at(corners_by(least, worths), m)
    costs = costs_of(names, gains_by(least, worths, (p, q)))
    columns = assigned(costs)
    # What is paid for being a value: at least so much that no key would gain by another value.
    paid = [0 for _ in names]
    for _ in names:
        for row, column in enumerate(columns):
            for other, cost in enumerate(costs[row]):
                if cost is not None:
                    paid[other] = max(paid[other], paid[column] + costs[row][column] - cost)
    tasks = {}
    places = {}
    for row, name in enumerate(names):
        gain = -costs[row][columns[row]] - paid[columns[row]]
        tasks[name] = reduced(gain + paid[row], q)
        places[name] = reduced(-paid[row], q)
    return (reduced(p, q), tasks, places)


def prices(loop, worths, m, is_cut):
    """Returns PRICES whose SUM for m is STAIR(m)."""
    return prices_by(shifts(loop, is_cut), worths, m)


def are_prices(loop, worths, is_cut, thing):
    """Tells whether any value is PRICES."""
    names = read_names(loop)
    if not is_tuple_of(thing, 3) or not is_fraction(thing[0]) or thing[0][0] < 0:
        return False
    cell, tasks, places = thing
    if not has_just_keys(tasks, names) or not has_just_keys(places, names):
        return False
    if not all([is_fraction(tasks[name]) and tasks[name][0] >= 0 and is_fraction(places[name]) for name in names]):
        return False
    for (a, b), s in shifts(loop, is_cut).items():
        most = added(added(tasks[a], times(cell, (s, 1))), lessened(places[a], places[b]))
        if compared((worths[a], 1), most) > 0:
            return False
    return True


def price_sum(prices, m):
    """Returns the SUM of PRICES for m."""
    total = times((m, 1), prices[0])
    for price in prices[1].values():
        total = added(total, price)
    return total
