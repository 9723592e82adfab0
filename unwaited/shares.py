"""KEEPINGS that keep as great a SHARE as can be."""

from math import lcm

from unwaited.errors import TooMany
from unwaited.forms import is_keeping, read_names
from unwaited.fractions import added, lessened, reduced, times
from unwaited.judged import is_right
from unwaited.keepings import cells_many, kept_steps
from unwaited.rings import circles_of, keeping_of_rings, rings_of
from unwaited.stairs import are_prices, corner_matching, corners, price_sum, prices_by
from unwaited.turns import shifts

MOST_NODES = 12


def share_of(worths, keeping):
    """Returns the SHARE of a KEEPING."""
    return reduced(sum([worths[name] for name, _ in kept_steps(keeping)]), keeping[0])


def corner_keeping(loop, worths, cells, is_cut):
    """Returns the KEEPING that the RINGS of the MATCHING of a CORNER MAKE."""
    return keeping_of_rings(loop, rings_of(loop, corner_matching(loop, worths, cells, is_cut), is_cut))


def tight_couples(least, worths, paid):
    """Returns the dict from all couples to their SHIFT for which these PRICES leave nothing to spare."""
    cell, tasks, places = paid
    tight = {}
    for (a, b), s in least.items():
        price = added(added(tasks[a], times(cell, (s, 1))), lessened(places[a], places[b]))
        if price == (worths[a], 1):
            tight[(a, b)] = s
    return tight


def links_between(nodes, tight, paid, n):
    """Returns for each node (name, remainder) by n, in order, a list of tuples (at, turns, is_kept): the index of
    the node of the next value in its CELL, and how often n rounds are gone through till then; a node that is not
    kept stands as its own next one for nothing."""
    links = []
    for place, (a, remainder) in enumerate(nodes):
        own = [(place, 0, False)] if paid[1][a] == (0, 1) else []
        for at, (b, then) in enumerate(nodes):
            if (a, b) in tight and (remainder + tight[(a, b)]) % n == then:
                own.append((at, (remainder + tight[(a, b)]) // n, True))
        links.append(own)
    return links


def sums_by_taken(links, m):
    """Returns the dict from each set of nodes that can be the next ones of the first so many to a set of numbers up
    to m: what the turns may be together. Either set is a number with a bit for each member."""
    sums = {0: 1}
    layer = [0]
    for own in links:
        farther = {}
        for taken in layer:
            for at, turns, _ in own:
                if taken >> at & 1 == 0:
                    more = taken | 1 << at
                    together = (sums[taken] << turns) & ((1 << (m + 1)) - 1)
                    farther[more] = farther.get(more, 0) | together
        sums.update(farther)
        layer = list(farther)
    return sums


def chosen_links(links, m):
    """Returns the list of one of its links for each node, such that each node is the next one once, and the turns
    are m together; None if there is none."""
    sums = sums_by_taken(links, m)
    taken = (1 << len(links)) - 1
    if sums.get(taken, 0) >> m & 1 == 0:
        return None
    chosen = []
    for own in links[::-1]:
        fitting = [(at, turns, is_kept) for at, turns, is_kept in own if taken >> at & 1 == 1 and turns <= m
                   and sums.get(taken - (1 << at), 0) >> (m - turns) & 1 == 1]
        chosen.append(fitting[0])
        taken -= 1 << fitting[0][0]
        m -= fitting[0][1]
    return chosen[::-1]


def keeping_of_links(names, nodes, chosen, n):
    """Returns the KEEPING that goes BY n in which the values of each circle of kept nodes follow one another."""
    circles = circles_of({place: at for place, (at, _, is_kept) in enumerate(chosen) if is_kept})
    sizes = [sum([chosen[place][1] for place in circle]) for circle in circles]
    often = 1
    for size in sizes:
        often = lcm(often, size)
    rows = {name: [None] * (n * often) for name in names}
    base = 0
    for circle, size in zip(circles, sizes):
        gone = 0
        for place in circle:
            name, remainder = nodes[place]
            for turn in range(often):
                rows[name][n * turn + remainder] = base + (turn - gone) % size
            gone += chosen[place][1]
        base += size
    return (n * often, {name: tuple(row) for name, row in rows.items()})


def keeping_with(loop, worths, m, n, is_cut):
    """Returns a RIGHT KEEPING with at most m CELLS and the SHARE STAIR(m) that goes BY n, None if there is none;
    raises TooMany(12) if n times the number of READ tasks is greater."""
    names = read_names(loop)
    if n * len(names) > MOST_NODES:
        raise TooMany(MOST_NODES)
    points = corners(loop, worths, is_cut)
    if m in [cells for cells, _ in points] or m > points[-1][0]:
        return corner_keeping(loop, worths, min(m, points[-1][0]), is_cut)
    # Between CORNERS a CELL has its price. So what has a SUM of PRICES as its worth has no value that is worth less
    # than it costs, leaves no CELL idle for a round more than the SHIFT, and leaves out only what costs nothing.
    least = shifts(loop, is_cut)
    paid = prices_by(least, worths, m)
    nodes = [(name, remainder) for name in names for remainder in range(n)]
    links = links_between(nodes, tight_couples(least, worths, paid), paid, n)
    chosen = chosen_links(links, m)
    return None if chosen is None else keeping_of_links(names, nodes, chosen, n)


def is_best(loop, worths, m, is_cut, keeping, prices):
    """Tells whether any values are a RIGHT KEEPING with at most m CELLS, and PRICES whose SUM for m is its SHARE."""
    if not is_keeping(loop, keeping) or cells_many(keeping) > m or not is_right(loop, keeping, is_cut):
        return False
    if not are_prices(loop, worths, is_cut, prices):
        return False
    return price_sum(prices, m) == share_of(worths, keeping)
