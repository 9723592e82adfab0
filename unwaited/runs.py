"""RUNS, CUT RUNS, and the ORDERS of a WINDOW."""

from unwaited.arcs import arcs_by_later
from unwaited.errors import TooMany
from unwaited.forms import is_step, is_tuple_of, names_of
from unwaited.paths import before_any, nearest_before

MOST_SETS = 20000
MOST_ORDERS = 2000


def are_ahead(arcs, step, done):
    """Tells whether all STEPS from which an ARC leads to a STEP are among the keys of done."""
    # This is enough for all that are BEFORE it: what is in done had its own ones ahead of it.
    return all([earlier in done for earlier in nearest_before(arcs, step)])


def is_run(loop, thing):
    """Tells whether any value is a RUN."""
    if not isinstance(thing, tuple):
        return False
    return is_cut_run(loop, tuple([(step, True) for step in thing]))


def is_cut_run(loop, thing):
    """Tells whether any value is a CUT RUN."""
    if not isinstance(thing, tuple):
        return False
    arcs = arcs_by_later(loop)
    done = {}
    for item in thing:
        if not is_tuple_of(item, 2) or not isinstance(item[1], bool) or not is_step(loop, item[0]):
            return False
        step, is_whole = item
        if step in done or not are_ahead(arcs, step, done):
            return False
        if is_whole:
            done[step] = True
    return True


def whole_steps(cut_run):
    """Returns the RUN of the STEPS that stand in a CUT RUN with True."""
    return tuple([step for step, is_whole in cut_run if is_whole])


def closed(loop, steps):
    """Returns the ascending tuple of these STEPS and of all that are BEFORE one of them."""
    return tuple(sorted(set(list(steps) + before_any(loop, steps))))


def ordered(loop, steps, couples, choices):
    """Returns the RUN of an ascending tuple of STEPS that is closed, the first of each of these couples of them
    ahead of the second one: at each place, of those that are ready, it has the one that the next choice tells,
    the least one if choices are used up."""
    arcs = arcs_by_later(loop)
    ahead = {step: nearest_before(arcs, step) for step in steps}
    for one, other in couples:
        ahead[other].append(one)
    lacking = {step: len(earlier) for step, earlier in ahead.items()}
    behind = {step: [] for step in steps}
    for step in steps:
        for earlier in ahead[step]:
            behind[earlier].append(step)
    free = [step for step in steps if lacking[step] == 0]
    order = []
    while free:
        place = choices[len(order)] % len(free) if len(order) < len(choices) else 0
        step = free.pop(place)
        order.append(step)
        for later in behind[step]:
            lacking[later] -= 1
            if lacking[later] == 0:
                free.append(later)
        free = sorted(free)
    return tuple(order)


def least_run(loop, steps):
    """Returns the least RUN in which just these STEPS and all that are BEFORE one of them stand."""
    return ordered(loop, closed(loop, steps), (), ())


def window_of(loop, rounds):
    """Returns the ascending tuple of the STEPS of WINDOW rounds."""
    return tuple([(name, at) for name in names_of(loop) for at in range(rounds)])


def ready(loop, run, rounds):
    """Returns the ascending tuple of the STEPS of WINDOW rounds that can stand next in a RUN."""
    arcs = arcs_by_later(loop)
    done = {step: True for step in run}
    return tuple([step for step in window_of(loop, rounds) if step not in done and are_ahead(arcs, step, done)])


def order_by(loop, rounds, choices):
    """Returns the ORDER of WINDOW rounds that these choices tell."""
    return ordered(loop, window_of(loop, rounds), (), choices)


class Window:
    """The STEPS of a WINDOW, numbered in ascending order. A set of them is a number with a bit for each."""

    def __init__(self, loop, rounds):
        self.steps = window_of(loop, rounds)
        numbers = {step: number for number, step in enumerate(self.steps)}
        self.ahead = []
        self.behind = [[] for _ in self.steps]
        arcs = arcs_by_later(loop)
        for number, step in enumerate(self.steps):
            bits = 0
            for earlier in nearest_before(arcs, step):
                bits |= 1 << numbers[earlier]
                self.behind[numbers[earlier]].append(number)
            self.ahead.append(bits)

    def first_free(self):
        """Returns the ascending list of the numbers of the STEPS that can stand first in an ORDER."""
        return [number for number, bits in enumerate(self.ahead) if bits == 0]

    def joined(self, done, numbers):
        """Returns the set of what is in done, and of the STEPS with these numbers."""
        for number in numbers:
            done |= 1 << number
        return done

    def then_free(self, done, free, numbers):
        """Returns the ascending list of the numbers of the STEPS that are ready when done is the set of those that
        are done, numbers being the last of them, and free what was ready ahead of these."""
        freed = [later for number in numbers for later in self.behind[number]
                 if self.ahead[later] & done == self.ahead[later]]
        return sorted(set([number for number in free if number not in numbers] + freed))

    def sets_at_least(self):
        """Returns a number of sets of STEPS with which one can begin, there may be more: all that is ready done at
        one time, again and again, at each time any part of it but none makes a set of its own. Beyond 20,000
        it goes no farther."""
        done = 0
        free = self.first_free()
        sets_many = 1
        while free and sets_many <= MOST_SETS:
            sets_many += (1 << len(free)) - 1
            done = self.joined(done, free)
            free = self.then_free(done, free, free)
        return sets_many


def orders_many(loop, rounds):
    """Returns how many ORDERS a WINDOW has; raises TooMany(20000) if there are more sets of STEPS with which
    one can begin."""
    window = Window(loop, rounds)
    # Most WINDOWS with too many sets are told so at once: to count them takes long.
    if window.sets_at_least() > MOST_SETS:
        raise TooMany(MOST_SETS)
    # For each set with so many STEPS: how many ways lead to it, and what is ready then.
    ways = {0: 1}
    free = {0: window.first_free()}
    sets_many = 1
    for _ in window.steps:
        farther = {}
        then_free = {}
        for done, many in ways.items():
            for number in free[done]:
                more = done | 1 << number
                if more not in farther:
                    farther[more] = 0
                    then_free[more] = window.then_free(more, free[done], [number])
                    sets_many += 1
                farther[more] += many
            if sets_many > MOST_SETS:
                raise TooMany(MOST_SETS)
        ways = farther
        free = then_free
    return sum(list(ways.values()))


def all_orders(loop, rounds):
    """Returns the ascending list of all ORDERS of a WINDOW; raises TooMany(2000) if there are more."""
    window = Window(loop, rounds)
    begun = [((), 0, window.first_free())]
    for _ in window.steps:
        farther = []
        for order, done, free in begun:
            for number in free:
                more = done | 1 << number
                farther.append(((*order, window.steps[number]), more, window.then_free(more, free, [number])))
            # Each beginning can be ended, so there are at least as many ORDERS as beginnings.
            if len(farther) > MOST_ORDERS:
                raise TooMany(MOST_ORDERS)
        begun = farther
    return [order for order, _, _ in begun]
