"""A hall of workers, to whom STEPS of the endless run are handed out; what they tell is kept in CELLS."""

from heapq import heappop, heappush

from unwaited.arcs import arcs_by_earlier, arcs_by_later
from unwaited.errors import Nothing, Unlike, Wrong
from unwaited.forms import is_count, is_keeping, is_live_loop, is_value, names_of, read_names, reads_of, task_of
from unwaited.judged import is_right
from unwaited.keepings import cell_of, cells_many
from unwaited.meanings import first_of
from unwaited.paths import nearest_before

MOST_WORKERS = 8


class Progress:
    """Which STEPS are done, and which can be handed out."""

    def __init__(self, loop):
        self.ahead = arcs_by_later(loop)
        self.behind = arcs_by_earlier(loop)
        # Of each task all rounds below the least one that is not done; and the done ones behind it.
        self.least = {name: 0 for name in names_of(loop)}
        self.later = {name: {} for name in names_of(loop)}
        # What is neither done nor in hand, and has all that is BEFORE it done, as tuples (round, name). Where nothing
        # is BEFORE a STEP, only the first one of its task that was never handed out: there may be no end of them.
        self.free = []
        self.fresh = {}
        for name in names_of(loop):
            self.free_fresh(name, 0)

    def free_fresh(self, name, at):
        """Lets a STEP be handed out, with which those of a task begin that never were, if nothing is BEFORE it."""
        if all([at < d for _, _, d in self.ahead[name]]):
            self.fresh[name] = at
            self.free_step((name, at))

    def free_step(self, step):
        """Lets a STEP be handed out."""
        heappush(self.free, (step[1], step[0]))

    def take(self):
        """Hands out the STEP with the least round, of these with the least name; None if there is none."""
        if len(self.free) == 0:
            return None
        at, name = heappop(self.free)
        if self.fresh.get(name, None) == at:
            self.free_fresh(name, at + 1)
        return (name, at)

    def is_done(self, step):
        """Tells whether a STEP is done."""
        name, at = step
        return at < self.least[name] or at in self.later[name]

    def end(self, step):
        """Keeps that a STEP which was handed out is done."""
        name, at = step
        self.later[name][at] = True
        while self.least[name] in self.later[name]:
            del self.later[name][self.least[name]]
            self.least[name] += 1
        for _, later, d in self.behind[name]:
            # It is the last one that was lacking here: so nothing is freed twice.
            if all([self.is_done(earlier) for earlier in nearest_before(self.ahead, (later, at + d))]):
                self.free_step((later, at + d))

    def marks(self):
        """Returns the dict from all names to tuples (least, later)."""
        return {name: (at, tuple(sorted(list(self.later[name])))) for name, at in self.least.items()}

    def follow(self, other):
        """Takes over all that another one of the same LOOP keeps."""
        self.least = dict(other.least)
        self.later = {name: dict(rounds) for name, rounds in other.later.items()}
        self.free = list(other.free)
        self.fresh = dict(other.fresh)


class Hall:
    """Hands out STEPS to workers, one at a time to each, and keeps what they tell."""

    def __init__(self, loop, keeping):
        if not is_live_loop(loop):
            raise Wrong(0)
        if not is_keeping(loop, keeping) or not is_right(loop, keeping, True):
            raise Wrong(1)
        self._loop = loop
        self._keeping = (keeping[0], {name: keeping[1][name] for name in read_names(loop)})
        self._reads = {name: reads_of(task_of(loop, name)[2]) for name in names_of(loop)}
        self._progress = Progress(loop)
        # From workers to the tuples (step, inputs) that they were handed.
        self._in_hand = {}
        self._written = [None] * cells_many(keeping)
        self._stored = {}
        # What falls have told of STEPS that are not done yet.
        self._fallen = {}
        self._told = []
        self._log = []

    def check_worker(self, thing):
        """Raises Wrong(0) if any value is no worker."""
        if not is_count(thing) or thing >= MOST_WORKERS:
            raise Wrong(0)

    def found_at(self, name, d, at):
        """Returns the VALUE that a read (name, d) finds in a round."""
        if at < d:
            return first_of(self._loop, name)
        cell = cell_of(self._keeping, (name, at - d))
        return self._stored[(name, at - d)] if cell is None else self._written[cell]

    def ask(self, worker):
        """Returns what a worker has to do, a tuple (step, inputs); None if there is nothing to hand out."""
        self.check_worker(worker)
        if worker not in self._in_hand:
            step = self._progress.take()
            if step is None:
                return None
            inputs = [(name, d, self.found_at(name, d, step[1])) for name, d in self._reads[step[0]]]
            self._in_hand[worker] = (step, tuple(inputs))
            self._log.append(f"ask {worker}")
        return self._in_hand[worker]

    def step_of(self, worker, value):
        """Returns the STEP that a worker has in hand; raises Nothing() if there is none, Unlike(step) if a fall has
        told another VALUE of it than this one."""
        if worker not in self._in_hand:
            raise Nothing()
        step, _ = self._in_hand[worker]
        if value is not None and self._fallen.get(step, value) != value:
            raise Unlike(step)
        return step

    def put_away(self, step, value):
        """Writes the VALUE of a STEP to its CELL, or to the slow store, if its task is READ."""
        if step[0] in self._keeping[1]:
            cell = cell_of(self._keeping, step)
            if cell is None:
                self._stored[step] = value
            else:
                self._written[cell] = value

    def done(self, worker, value):
        """Tells that the STEP in hand is done, and what it has come to."""
        self.check_worker(worker)
        if not is_value(value):
            raise Wrong(1)
        step = self.step_of(worker, value)
        self.put_away(step, value)
        self._progress.end(step)
        self._fallen.pop(step, None)
        del self._in_hand[worker]
        self._told.append((step, True))
        self._log.append(f"done {worker} {value}")

    def fall(self, worker, value):
        """Tells that a worker has fallen, and what was written ahead of this, None if nothing was."""
        self.check_worker(worker)
        if value is not None and not is_value(value):
            raise Wrong(1)
        step = self.step_of(worker, value)
        if value is None:
            self._log.append(f"fall {worker} none")
        else:
            self.put_away(step, value)
            self._fallen[step] = value
            self._told.append((step, False))
            self._log.append(f"fall {worker} {value}")
        self._progress.free_step(step)
        del self._in_hand[worker]

    def hands(self):
        """Returns the dict from the workers that have a STEP in hand to these."""
        return {worker: self._in_hand[worker][0] for worker in sorted(list(self._in_hand))}

    def cells(self):
        """Returns the tuple of what stands in each CELL, None in one that was never written."""
        return tuple(self._written)

    def slow(self):
        """Returns the dict from the STEPS whose VALUE stands in the slow store to these."""
        return {step: self._stored[step] for step in sorted(list(self._stored))}

    def marks(self):
        """Returns the dict from all names to tuples (least, later): the least round in which the task is not done,
        and the rounds behind it in which it is."""
        return self._progress.marks()

    def cut_run(self):
        """Returns the CUT RUN of all that has been told with a VALUE."""
        return tuple(self._told)

    def lines(self):
        """Returns the tuple of the LINES of all calls that have changed something."""
        return tuple(self._log)

    def twin(self):
        """Returns a Hall of its own that is in all as this one."""
        other = Hall(self._loop, self._keeping)
        other._progress.follow(self._progress)
        other._in_hand = dict(self._in_hand)
        other._written = list(self._written)
        other._stored = {step: value for step, value in self._stored.items()}
        other._fallen = {step: value for step, value in self._fallen.items()}
        other._told = list(self._told)
        other._log = list(self._log)
        return other

    def __eq__(self, other):
        """Tells whether a Hall has the same LOOP, KEEPING and LINES."""
        if not isinstance(other, Hall):
            return False
        return (self._loop, self._keeping, self._log) == (other._loop, other._keeping, other._log)
