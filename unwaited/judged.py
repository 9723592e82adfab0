"""Whether a KEEPING is RIGHT, with papers either way."""

from unwaited.arcs import arcs_by_later, arcs_of, reached_from
from unwaited.forms import is_step, is_tuple_of, names_in_order, names_of, reads_of
from unwaited.keepings import cell_of, cells_many, kept_steps
from unwaited.losing import length_of, run_of, ways_of
from unwaited.paths import before_along
from unwaited.turns import Turns, lot_by


def steps_by_cell(turns, keeping):
    """Returns a list with a list for each CELL: the STEPS that have it with rounds below the period, round by
    round, those of one round in the order of their TURNS, if they have one."""
    cells = [[] for _ in range(cells_many(keeping))]
    for name, row in keeping[1].items():
        rank = turns.rank_of(name)
        for at, cell in enumerate(row):
            if cell is not None:
                cells[cell].append((at, rank, name))
    return [[(name, at) for at, _, name in sorted(steps)] for steps in cells]


def links_of(period, lists):
    """Returns a list of tuples (a, b, s), each once: from each STEP of a CELL to the next one, and from the last one
    to the first one moved on by the period."""
    # Of a long period there are very many, but few kinds of them.
    links = {}
    for steps in lists:
        for (a, i), (b, j) in zip(steps, steps[1:]):
            links[(a, b, j - i)] = True
        (a, i), (b, j) = steps[-1], steps[0]
        links[(a, b, j + period - i)] = True
    return list(links)


def turn_lists_by(turns, keeping):
    """Returns the TURN LISTS of a KEEPING by these TURNS, None if there are none."""
    lists = steps_by_cell(turns, keeping)
    if not all([turns.has_turn(a, b, s) for a, b, s in links_of(keeping[0], lists)]):
        return None
    return tuple([tuple(steps) for steps in lists])


def turn_lists(loop, keeping, is_cut):
    """Returns the TURN LISTS of a KEEPING, None if there are none."""
    return turn_lists_by(Turns(loop, lot_by(loop, is_cut)), keeping)


def are_turn_lists(loop, keeping, is_cut, thing):
    """Tells whether any value is the TURN LISTS of a KEEPING."""
    if not isinstance(thing, tuple) or not all([isinstance(steps, tuple) for steps in thing]):
        return False
    # Asked first, as True would pass for the number 1.
    if not all([is_step(loop, step) for steps in thing for step in steps]):
        return False
    return thing == turn_lists(loop, keeping, is_cut)


def is_right(loop, keeping, is_cut):
    """Tells whether a KEEPING is RIGHT."""
    return turn_lists(loop, keeping, is_cut) is not None


def are_clashing(turns, keeping, one, other):
    """Tells whether two kept STEPS of a KEEPING have one CELL and no TURN, either way."""
    if cell_of(keeping, one) != cell_of(keeping, other):
        return False
    s = other[1] - one[1]
    return not turns.has_turn(one[0], other[0], s) and not turns.has_turn(other[0], one[0], -s)


def is_clash(loop, keeping, is_cut, thing):
    """Tells whether any value is a CLASH of a KEEPING."""
    if not is_tuple_of(thing, 2) or not all([is_step(loop, step) for step in thing]):
        return False
    one, other = thing
    if not all([step[0] in keeping[1] and cell_of(keeping, step) is not None for step in thing]):
        return False
    if (one[1], one[0]) >= (other[1], other[0]):
        return False
    return are_clashing(Turns(loop, lot_by(loop, is_cut)), keeping, one, other)


def first_clash_by(turns, keeping):
    """Returns what first_clash does, by these TURNS."""
    if turn_lists_by(turns, keeping) is not None:
        return None
    once = list(kept_steps(keeping))
    steps = once + [(name, at + keeping[0]) for name, at in once]
    for place, other in enumerate(steps):
        for one in steps[:place]:
            if are_clashing(turns, keeping, one, other):
                return (one, other)
    return None


def first_clash(loop, keeping, is_cut):
    """Returns the CLASH with the least round of other, then name of other, round of one, name of one; None if the
    KEEPING is RIGHT."""
    return first_clash_by(Turns(loop, lot_by(loop, is_cut)), keeping)


def ringed_names(loop):
    """Returns the list of the names to which PATHS from a RING lead, those on it among them."""
    reached = {name: reached_from(loop, name) for name in names_of(loop)}
    on_rings = [earlier for earlier, later, _ in arcs_of(loop) if earlier in reached[later]]
    return [name for name in names_of(loop) if any([name in reached[other] for other in on_rings])]


def many_of(bits):
    """Returns how many members a set has: a number with a bit for each."""
    return f"{bits:b}".count("1")


def closed_rows(loop, most, rounds):
    """Returns the dict from each name to a list, round by round, of tuples (size, bits): a set of the STEP and of
    all that are BEFORE it, a bit for each, round by round. Behind the first one with more members than most, all
    of which have more, a list ends; the others have at least so many rounds."""
    order = names_in_order(loop)
    arcs = arcs_by_later(loop)
    ringed = ringed_names(loop)
    rows = {name: [] for name in order}
    at = 0
    # Where RINGS lead, sets grow from round to round without an end; elsewhere perhaps none gets too great.
    while at < rounds or any([len(rows[name]) == at for name in ringed]):
        for place, name in enumerate(order):
            ahead = [(earlier, at - d) for earlier, _, d in arcs[name] if d <= at]
            if len(rows[name]) < at or any([len(rows[earlier]) <= early for earlier, early in ahead]):
                continue
            bits = 1 << (at * len(order) + place)
            for earlier, early in ahead:
                bits |= rows[earlier][early][1]
            # All the others are those of the round ahead, each one round later.
            size = many_of(bits & ((1 << len(order)) - 1)) + (rows[name][-1][0] if at > 0 else 0)
            if size <= most:
                rows[name].append((size, bits))
        at += 1
    return rows


class Shortest:
    """The search for the shortest CUT RUN of a lot in which something is lost. best is the number of its items, way
    the tuple (x, y, reader) of what comes to it: y has written to the CELL of x when reader reads it."""

    def __init__(self, loop, keeping, lot, best):
        self.reads = {name: reads_of(body) for name, _, body in loop[0]}
        self.keeping = keeping
        self.lot = lot
        self.best = best
        self.way = None
        self.places = {name: place for place, name in enumerate(names_in_order(loop))}
        # Farther on, where no RING leads, nothing comes that would not have come a period ahead.
        rounds = 2 * keeping[0] + len(self.places) * max([d for _, _, d in arcs_of(loop)], default=0)
        self.rows = closed_rows(loop, best - 1, rounds)
        ringed = ringed_names(loop)
        self.steps = sorted([(size, name, at) for name, row in self.rows.items() for at, (size, _) in enumerate(row)
                             if at < rounds or name in ringed])
        self.writers = {}
        self.early_writers = {}
        for size, name, at in self.steps:
            if name in keeping[1]:
                cell = cell_of(keeping, (name, at))
                self.writers.setdefault(cell, []).append((size, name, at))
                if at < keeping[0]:
                    self.early_writers.setdefault(cell, []).append((size, name, at))

    def is_in(self, step, bits):
        """Tells whether a set has a STEP."""
        return bits >> (step[1] * len(self.places) + self.places[step[0]]) & 1 == 1

    def ask_writers(self, x, reader):
        """Looks for all that may be written to the CELL of x behind it, ahead of a reader."""
        size, bits = self.rows[reader[0]][reader[1]]
        before_x = self.rows[x[0]][x[1]][1]
        # If both were later, all could be moved down by the period.
        writers = self.writers if x[1] < self.keeping[0] else self.early_writers
        for many, name, at in writers.get(cell_of(self.keeping, x), []):
            if many >= self.best:
                break
            before_y = self.rows[name][at][1]
            # Cut off, it may come a second time, and read what it has written itself.
            is_again = reader == (name, at) and name in self.lot
            if not self.is_in((name, at), before_x) and (is_again or not self.is_in(reader, before_y)):
                together = size + (1 if is_again else many_of(before_y & ~bits))
                if together < self.best:
                    self.best = together
                    self.way = (x, (name, at), reader)

    def ask_readers(self):
        """Looks for all that may be read."""
        for size, name, at in self.steps:
            if size >= self.best:
                break
            for earlier, d in self.reads[name]:
                if at >= d and cell_of(self.keeping, (earlier, at - d)) is not None:
                    self.ask_writers((earlier, at - d), (name, at))


def shortest_way(loop, keeping, lot):
    """Returns a way, as ways_of tells them, to a CUT RUN of the lot with as few items as possible whose last one finds
    another STEP than it reads; None if the KEEPING is RIGHT in all of the lot."""
    clash = first_clash_by(Turns(loop, lot), keeping)
    if clash is None:
        return None
    ways = ways_of(loop, clash[0], clash[1], lot)
    fewest = min([length_of(way) for way in ways])
    search = Shortest(loop, keeping, lot, fewest)
    search.ask_readers()
    if search.way is None:
        return [way for way in ways if length_of(way) == fewest][0]
    x, y, reader = search.way
    return (x, y, reader, before_along(arcs_by_later(loop), [y, reader]))


def losing_run_of(loop, keeping):
    """Returns a RUN with as few STEPS as possible whose last STEP finds another STEP than it reads, None if the
    KEEPING is RIGHT."""
    way = shortest_way(loop, keeping, ())
    return None if way is None else run_of(loop, way)
