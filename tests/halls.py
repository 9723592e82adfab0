"""A slow, plain hall that knows nothing but [35] and [36]; KEEPINGS that are RIGHT with cuts; honest workers."""

from slow import random_keeping
from unwaited.errors import Nothing, Unlike
from unwaited.judged import is_right
from unwaited.matchings import least_matching
from unwaited.meanings import comes_to, value_of
from unwaited.rings import keeping_of_rings, rings_of
from unwaited.shares import corner_keeping, keeping_with
from unwaited.stairs import corners


def right_keepings(rng, slow):
    """KEEPINGS that are RIGHT with cuts: WHOLE ones, some items in the slow store, all of them."""
    loop = slow.loop
    found = [(1, {name: (None,) for name in slow.read_names})]
    matching = least_matching(loop, True)
    if matching is not None:
        found.append(keeping_of_rings(loop, rings_of(loop, matching, True)))
    worths = {name: rng.randint(0, 5) for name in slow.read_names}
    found += [corner_keeping(loop, worths, cells, True) for cells, _ in corners(loop, worths, True)]
    found += [keeping_with(loop, worths, m, 1, True) for m in (1, 3)]
    found += [random_keeping(rng, slow.read_names, 3, 6, 0.3) for _ in range(3)]
    return [keeping for keeping in found if keeping is not None and is_right(loop, keeping, True)]


class SlowHall:
    """The hall by [35], which keeps only what it was told, and works out all else anew each time."""

    def __init__(self, slow, keeping):
        self.slow = slow
        self.keeping = keeping
        self.firsts = {name: first for name, first, _ in slow.loop[0]}
        self.in_hand = {}
        self.log = []
        # All that was told with a VALUE: (step, is_whole, value).
        self.told = []

    def is_kept(self, step):
        return step[0] in self.slow.readers and self.slow.cell(self.keeping, step) is not None

    def ended(self):
        return {step for step, is_whole, _ in self.told if is_whole}

    def cells(self):
        many = max([cell for row in self.keeping[1].values() for cell in row if cell is not None], default=-1) + 1
        found = [None] * many
        for step, _, value in self.told:
            if self.is_kept(step):
                found[self.slow.cell(self.keeping, step)] = value
        return tuple(found)

    def stored(self):
        return {step: value for step, _, value in sorted(self.told, key=lambda told: told[1])
                if step[0] in self.slow.readers and not self.is_kept(step)}

    def marks(self):
        found = {}
        for name in self.slow.names:
            rounds = {at for other, at in self.ended() if other == name}
            least = min(set(range(len(rounds) + 1)) - rounds)
            found[name] = (least, tuple(sorted(at for at in rounds if at > least)))
        return found

    def next_step(self):
        ended = self.ended()
        taken = ended | {step for step, _ in self.in_hand.values()}
        # Behind all that was handed out nothing can come but the next round of a task that needs nothing.
        most = max([at for _, at in taken], default=0) + 12
        for at in range(most):
            for name in self.slow.names:
                if (name, at) not in taken and self.slow.before((name, at)) <= ended:
                    return (name, at)
        return None

    def input_at(self, name, d, at):
        if at < d:
            return self.firsts[name]
        step = (name, at - d)
        return self.cells()[self.slow.cell(self.keeping, step)] if self.is_kept(step) else self.stored()[step]

    def ask(self, worker):
        if worker not in self.in_hand:
            step = self.next_step()
            if step is None:
                return None
            inputs = tuple((name, d, self.input_at(name, d, step[1])) for name, d in sorted(self.slow.reads[step[0]]))
            self.in_hand[worker] = (step, inputs)
            self.log.append("ask %d" % worker)
        return self.in_hand[worker]

    def tell(self, worker, value, is_whole):
        if worker not in self.in_hand:
            raise Nothing()
        step = self.in_hand[worker][0]
        known = {told for other, _, told in self.told if other == step}
        if value is not None and known and known != {value}:
            raise Unlike(step)
        del self.in_hand[worker]
        if value is not None:
            self.told.append((step, is_whole, value))
        self.log.append("%s %d %s" % ("done" if is_whole else "fall", worker, "none" if value is None else value))

    def state(self):
        return ({worker: self.in_hand[worker][0] for worker in sorted(self.in_hand)}, self.cells(),
                dict(sorted(self.stored().items())), self.marks(),
                tuple((step, is_whole) for step, is_whole, _ in self.told), tuple(self.log))


def state_of(hall):
    """All that a Hall tells of itself."""
    return (hall.hands(), hall.cells(), hall.slow(), hall.marks(), hall.cut_run(), hall.lines())


def check_task(case, loop, told):
    """Checks that what was handed out has the plain VALUES as its inputs; returns what it comes to."""
    (name, at), inputs = told
    firsts = {other: first for other, first, _ in loop[0]}
    for other, d, value in inputs:
        case.assertEqual(value, value_of(loop, (other, at - d)) if at >= d else firsts[other], (loop, told))
    body = [body for other, _, body in loop[0] if other == name][0]
    return comes_to(body, at, {(other, d): value for other, d, value in inputs})


def work_honestly(case, rng, loop, hall, times, workers=8, falling=0.3, slowness=0.5):
    """Honest workers ask, tell and fall, so many times, some of them slowly; all inputs have to be the plain VALUES."""
    paces = {worker: rng.choice((1, slowness, 0.1)) for worker in range(workers)}
    for _ in range(times):
        worker = rng.randrange(workers)
        if worker in hall.hands() and rng.random() > paces[worker]:
            continue
        told = hall.ask(worker)
        if told is None:
            continue
        value = check_task(case, loop, told)
        case.assertEqual(value, value_of(loop, told[0]))
        chance = rng.random()
        if chance < falling:
            hall.fall(worker, value if chance < falling / 2 else None)
        elif chance < 0.9:
            hall.done(worker, value)
