"""Slow, plain ways to find what follows from BEFORE: TURNS, SHIFTS, RIGHT KEEPINGS, MATCHINGS and so on, by their
definitions alone. Nothing of the package is asked."""

import itertools
from fractions import Fraction

from support import slow_arcs, slow_before, slow_reads


class Slow:
    """What there is to say of one LOOP, each thing worked out once."""

    def __init__(self, loop):
        self.loop = loop
        self.names = [task[0] for task in loop[0]]
        self.arcs = slow_arcs(loop)
        self.reads = {name: slow_reads(body) for name, _, body in loop[0]}
        self.readers = {}
        for later in self.names:
            for earlier, d in self.reads[later]:
                self.readers.setdefault(earlier, set()).add((later, d))
        self.read_names = sorted(self.readers)
        self.known = {}
        self.turns = {}

    def before(self, step):
        if step not in self.known:
            self.known[step] = slow_before(self.loop, step)
        return self.known[step]

    def closed(self, *steps):
        return set(steps).union(*(self.before(step) for step in steps))

    def turn(self, x, y, is_cut):
        """Whether x has its TURN ahead of y."""
        if (x, y, is_cut) not in self.turns:
            read = {(name, x[1] + d) for name, d in self.readers[x[0]]}
            self.turns[x, y, is_cut] = read <= self.before(y) | (set() if is_cut else {y})
        return self.turns[x, y, is_cut]

    def shift(self, a, b, is_cut, most=60):
        """The SHIFT, None if it is not below most."""
        return next((s for s in range(most) if (a, 0) != (b, s) and self.turn((a, 0), (b, s), is_cut)), None)

    def shifts(self, is_cut, most=60):
        found = {(a, b): self.shift(a, b, is_cut, most) for a in self.read_names for b in self.read_names}
        return {couple: s for couple, s in found.items() if s is not None}

    def clash(self, x, y, is_cut):
        """Whether two unlike STEPS can not have one CELL."""
        return not self.turn(x, y, is_cut) and not self.turn(y, x, is_cut)

    def cell(self, keeping, step):
        return keeping[1][step[0]][step[1] % keeping[0]]

    def loses(self, keeping, items):
        """Whether a read of the last tuple (step, is_whole) of a RUN or CUT RUN finds what is not meant."""
        written = {}
        for name, at in [step for step, _ in items[:-1]]:
            if name in self.readers:
                written[self.cell(keeping, (name, at))] = (name, at)
        name, at = items[-1][0]
        meant = [(earlier, at - d) for earlier, d in self.reads[name] if at >= d]
        return any(self.cell(keeping, step) is not None and written[self.cell(keeping, step)] != step for step in meant)

    def all_runs(self, steps, most, is_cut):
        """All RUNS, or CUT RUNS, of at most so many items, of these STEPS, the short ones first: as tuples of tuples
        (step, is_whole)."""
        layer = [()]
        for many in range(most + 1):
            yield from layer
            farther = []
            for items in layer if many < most else []:
                done = {step for step, is_whole in items if is_whole}
                for step in steps:
                    if step not in done and self.before(step) <= done:
                        farther += [items + ((step, is_whole),) for is_whole in ((False, True) if is_cut else (True,))]
            layer = farther

    def kept(self, keeping, rounds):
        """The kept STEPS with rounds below this number, round by round."""
        return [(name, at) for at in range(rounds) for name in self.read_names
                if self.cell(keeping, (name, at)) is not None]

    def clashes(self, keeping, is_cut, rounds):
        """All CLASHES with rounds below this number, in the order of [24]."""
        steps = self.kept(keeping, rounds)
        found = [(one, other) for place, other in enumerate(steps) for one in steps[:place]
                 if self.cell(keeping, one) == self.cell(keeping, other) and self.clash(one, other, is_cut)]
        return sorted(found, key=lambda told: (told[1][1], told[1][0], told[0][1], told[0][0]))

    def matchings(self, is_cut, most=60):
        """All MATCHINGS, as couples of a dict and its CELLS."""
        shifts = self.shifts(is_cut, most)
        for many in range(len(self.read_names) + 1):
            for keys in itertools.combinations(self.read_names, many):
                for values in itertools.permutations(keys):
                    couples = list(zip(keys, values))
                    if all(couple in shifts for couple in couples):
                        yield dict(couples), sum(shifts[couple] for couple in couples)

    def points(self, worths, is_cut):
        return sorted({(cells, sum(worths[name] for name in keys)) for keys, cells in self.matchings(is_cut)})

    def stair(self, worths, is_cut, m):
        return stair_of(self.points(worths, is_cut), m)


def stair_of(points, m):
    """STAIR(m) of these points, as [2] says it."""
    heights = [Fraction(worth) for cells, worth in points if cells <= m]
    heights += [Fraction(w1 * (c2 - m) + w2 * (m - c1), c2 - c1) for c1, w1 in points for c2, w2 in points if c1 < m < c2]
    return max(heights)


def corners_of(points):
    """The CORNERS: points of the stair at which it goes on less steeply than it came, the first one and the last."""
    top = max(worth for _, worth in points)
    last = min(cells for cells, worth in points if worth == top)
    found = [(0, 0)]
    for cells in range(1, last + 1):
        here = stair_of(points, cells)
        ahead, behind = here - stair_of(points, cells - 1), stair_of(points, cells + 1) - here
        if ahead > behind:
            found.append((cells, here))
    return tuple(found)


def random_keeping(rng, names, most, cells, gaps=0.2):
    """A KEEPING of these READ tasks, its CELLS numbered without a gap, not in order."""
    period = rng.randint(1, most)
    rows = {name: [None if rng.random() < gaps else rng.randrange(cells) for _ in range(period)] for name in names}
    had = sorted({cell for row in rows.values() for cell in row if cell is not None})
    return (period, {name: tuple(None if cell is None else had.index(cell) for cell in rows[name]) for name in rows})


def random_rings(rng, names, most):
    """RINGS of some of these READ tasks, with sizes of at most most."""
    left = rng.sample(names, rng.randint(0, len(names)))
    rings = []
    while left:
        size = rng.randint(1, most)
        many = rng.randint(1, len(left))
        rings.append((size, tuple(sorted((name, rng.randrange(size)) for name in left[:many]))))
        left = left[many:]
    return tuple(rings)
