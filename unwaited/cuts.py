"""Steps that are cut off, of some tasks or of all; and what that costs in CELLS."""

from unwaited.forms import names_of, read_names
from unwaited.judged import shortest_way, turn_lists_by
from unwaited.keepings import found
from unwaited.losing import cut_run_of
from unwaited.matchings import cells_by, whole_matching
from unwaited.runs import is_cut_run
from unwaited.turns import Turns


def is_of_lot(loop, lot, thing):
    """Tells whether any value is a CUT RUN, and one of the lot."""
    return is_cut_run(loop, thing) and all([is_whole or step[0] in lot for step, is_whole in thing])


def cut_everywhere(loop, lot, run):
    """Returns the CUT RUN in which each STEP of a task of the lot is cut off once, right ahead of being done."""
    cut_run = []
    for step in run:
        if step[0] in lot:
            cut_run.append((step, False))
        cut_run.append((step, True))
    return tuple(cut_run)


def played(loop, keeping, cut_run):
    """Returns a tuple with a tuple (step, is_whole, finds) for each item of a CUT RUN: what its reads of kept STEPS
    find."""
    # What was cut off has written, too: so to what is found it makes no difference.
    told = found(loop, keeping, [step for step, _ in cut_run])
    return tuple([(step, is_whole, finds) for (step, is_whole), (_, finds) in zip(cut_run, told)])


def first_wrong(loop, keeping, cut_run):
    """Returns the index of the first item of a CUT RUN one of whose reads finds another STEP than it reads, None if
    there is none."""
    for place, (step, _, finds) in enumerate(played(loop, keeping, cut_run)):
        if any([there != (name, step[1] - d) for name, d, there in finds]):
            return place
    return None


def is_right_for(loop, lot, keeping):
    """Tells whether a KEEPING is RIGHT in all CUT RUNS of the lot."""
    return turn_lists_by(Turns(loop, lot), keeping) is not None


def wrong_cut_run(loop, lot, keeping):
    """Returns a CUT RUN of the lot with as few items as possible whose last one finds another STEP than it reads,
    None if the KEEPING is RIGHT in all of the lot."""
    way = shortest_way(loop, keeping, lot)
    return None if way is None else cut_run_of(loop, way, lot)


def shifts_for(loop, lot):
    """Returns the dict from all couples of names of READ tasks to their SHIFT, None if there is none; those to tasks
    of the lot are by STRICT TURNS."""
    turns = Turns(loop, lot)
    return {(a, b): turns.least_shift(a, b) for a in turns.names for b in turns.names}


def fewest_for(loop, lot):
    """Returns the fewest CELLS of a WHOLE MATCHING by these SHIFTS, None if there is none."""
    least = Turns(loop, lot).all_shifts()
    matching = whole_matching(read_names(loop), least)
    return None if matching is None else cells_by(least, matching)


def price_of_cuts(loop):
    """Returns the tuple of the fewest CELLS without cuts, and with cuts of all tasks."""
    return (fewest_for(loop, ()), fewest_for(loop, names_of(loop)))


def free_to_cut(loop):
    """Returns the ascending tuple of the names of the tasks that may be cut off, each by itself, without one CELL
    more; () if there are no fewest CELLS."""
    fewest = fewest_for(loop, ())
    if fewest is None:
        return ()
    return tuple([name for name in names_of(loop) if fewest_for(loop, (name,)) == fewest])
