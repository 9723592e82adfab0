"""MATCHINGS, the fewest CELLS for all values, and NUMBERS that tell that there are no fewer."""

from unwaited.forms import has_just_keys, is_count, is_pairing, is_tuple_of, read_names
from unwaited.turns import shifts


def ways_from(costs, columns, row):
    """Returns two dicts for a row that is to get a column, columns being the dict from other rows to theirs: from
    each row that may have to give its own away to the least cost of this, and to the row that gets it."""
    sums = {row: 0}
    takers = {}
    # No circle costs less than nothing, as columns cost the least so far; so the least ways are soon found.
    for _ in costs:
        for taker in list(sums):
            for giver, column in columns.items():
                if costs[taker][column] is not None:
                    total = sums[taker] + costs[taker][column] - costs[giver][column]
                    if giver not in sums or total < sums[giver]:
                        sums[giver] = total
                        takers[giver] = taker
    return (sums, takers)


def assigned(costs):
    """Returns the list of the columns of the rows, each column once, with the least sum of costs[row][column],
    None among these standing where it may not be; None if there is no such list."""
    columns = {}
    for row in range(len(costs)):
        sums, takers = ways_from(costs, columns, row)
        taken = list(columns.values())
        ends = [(total + costs[other][column], other, column) for other, total in sums.items()
                for column in range(len(costs)) if column not in taken and costs[other][column] is not None]
        if len(ends) == 0:
            return None
        _, other, column = min(ends)
        while other != row:
            given = columns[other]
            columns[other] = column
            other, column = takers[other], given
        columns[row] = column
    return [columns[row] for row in range(len(costs))]


def whole_matching(names, least):
    """Returns the WHOLE MATCHING of least_matching for these READ tasks and this dict of all SHIFTS."""
    many = len(names)
    # The values count less than any CELL, the index of each less than that of the key ahead: digits of one number.
    weight = 1
    for _ in names:
        weight = weight * many
    costs = []
    place = weight
    for a in names:
        place = place // many
        costs.append([least[(a, b)] * weight + at * place if (a, b) in least else None for at, b in enumerate(names)])
    columns = assigned(costs)
    if columns is None:
        return None
    return {a: names[column] for a, column in zip(names, columns)}


def cells_by(least, matching):
    """Returns the CELLS of a MATCHING for this dict of all SHIFTS."""
    return sum([least[couple] for couple in matching.items()])


def is_matching(loop, is_cut, thing):
    """Tells whether any value is a MATCHING."""
    if not is_pairing(loop, thing):
        return False
    least = shifts(loop, is_cut)
    return all([couple in least for couple in thing.items()])


def matching_cells(loop, is_cut, matching):
    """Returns the CELLS of a MATCHING."""
    return cells_by(shifts(loop, is_cut), matching)


def is_whole(loop, matching):
    """Tells whether a MATCHING is WHOLE."""
    return has_just_keys(matching, read_names(loop))


def least_matching(loop, is_cut):
    """Returns the WHOLE MATCHING with the fewest CELLS, of these the one with the least tuple of values; None if
    there is none."""
    return whole_matching(read_names(loop), shifts(loop, is_cut))


def fewest_cells(loop, is_cut):
    """Returns the fewest CELLS of a WHOLE MATCHING, None if there is none."""
    least = shifts(loop, is_cut)
    matching = whole_matching(read_names(loop), least)
    return None if matching is None else cells_by(least, matching)


def numbers(loop, is_cut):
    """Returns NUMBERS whose SIZE is fewest_cells, None if this is None."""
    names = read_names(loop)
    least = shifts(loop, is_cut)
    matching = whole_matching(names, least)
    if matching is None:
        return None
    # From each key to its value an end is as late as it may be. So that it is not too late for others, either,
    # begins give way; they come to rest, as no other MATCHING has fewer CELLS.
    key_of = {value: key for key, value in matching.items()}
    begins = {name: 0 for name in names}
    for _ in names:
        for (a, b), s in least.items():
            key = key_of[b]
            begins[key] = min(begins[key], begins[a] + s - least[(key, b)])
    first = min(list(begins.values()), default=0)
    ends = {value: begins[key] - first + least[(key, value)] for key, value in matching.items()}
    return ({name: begins[name] - first for name in names}, {name: ends[name] for name in names})


def are_numbers(loop, is_cut, thing):
    """Tells whether any value is NUMBERS, of whatever SIZE."""
    names = read_names(loop)
    if not is_tuple_of(thing, 2) or not all([has_just_keys(part, names) for part in thing]):
        return False
    begins, ends = thing
    if not all([is_count(begins[name]) and is_count(ends[name]) and begins[name] <= ends[name] for name in names]):
        return False
    return all([ends[b] - begins[a] <= s for (a, b), s in shifts(loop, is_cut).items()])
