"""KEEPINGS: which STEPS have which CELLS, and what is found in these."""

from unwaited.forms import reads_of, task_of


def cell_of(keeping, step):
    """Returns the CELL of a STEP of a READ task, None if it is not kept."""
    period, rows = keeping
    name, at = step
    return rows[name][at % period]


def cells_many(keeping):
    """Returns how many CELLS a KEEPING has."""
    return max([cell for row in keeping[1].values() for cell in row if cell is not None], default=-1) + 1


def kept_steps(keeping):
    """Returns the tuple of the kept STEPS with rounds below the period, round by round, names ascending."""
    # Gone through by rows: without one a period may be very great.
    kept = [(at, name) for name, row in keeping[1].items() for at, cell in enumerate(row) if cell is not None]
    return tuple([(name, at) for at, name in sorted(kept)])


def longer(keeping, times):
    """Returns the KEEPING with so many times the period that gives each STEP the same CELL."""
    period, rows = keeping
    return (period * times, {name: rows[name] * times for name in sorted(list(rows))})


def has_period(rows, many):
    """Tells whether rows come again by so many rounds, by which the number of their items can be divided."""
    return all([row[many:] == row[:len(row) - many] for row in rows.values()])


def shortest(keeping):
    """Returns the KEEPING with the least period that gives each STEP the same CELL."""
    period, rows = keeping
    if len(rows) == 0:
        return (1, {})
    least = 1
    while period % least != 0 or not has_period(rows, least):
        least += 1
    return (least, {name: rows[name][:least] for name in sorted(list(rows))})


def numbered(keeping):
    """Returns the KEEPING with the least period of all that are ALIKE, its CELLS numbered as they are first had."""
    # ALIKE ones have the same least period: when one comes again, equal CELLS do so in the other one.
    period, rows = shortest(keeping)
    numbers = {None: None}
    for step in kept_steps((period, rows)):
        cell = cell_of((period, rows), step)
        if cell not in numbers:
            numbers[cell] = len(numbers) - 1
    return (period, {name: tuple([numbers[cell] for cell in row]) for name, row in rows.items()})


def are_alike(one, other):
    """Tells whether two KEEPINGS of one LOOP are ALIKE."""
    return numbered(one) == numbered(other)


def found(loop, keeping, run):
    """Returns a tuple with a tuple (step, finds) for each STEP of a RUN: what its reads of kept STEPS find."""
    reads = {name: reads_of(task_of(loop, name)[2]) for name in sorted(set([step[0] for step in run]))}
    written = {}
    told = []
    for name, at in run:
        finds = []
        for earlier, d in reads[name]:
            if at >= d and cell_of(keeping, (earlier, at - d)) is not None:
                finds.append((earlier, d, written[cell_of(keeping, (earlier, at - d))]))
        told.append(((name, at), tuple(finds)))
        if name in keeping[1]:
            written[cell_of(keeping, (name, at))] = (name, at)
    return tuple(told)


def first_lost(loop, keeping, run):
    """Returns the index of the first STEP of a RUN one of whose reads finds another STEP than it reads, None if
    there is none."""
    for place, (step, finds) in enumerate(found(loop, keeping, run)):
        if any([there != (name, step[1] - d) for name, d, there in finds]):
            return place
    return None
