"""A loop that is changed, with WORTHS, and with cuts or without."""

from unwaited.arcs import dead_ring
from unwaited.covers import struck, with_waits
from unwaited.errors import Dead, NoTask, Nothing, Wrong
from unwaited.forms import GREATEST_WORTH, is_count, is_loop, is_name, is_task, is_wait, names_of, read_names, reads_of
from unwaited.forms import task_of
from unwaited.matchings import fewest_cells, least_matching
from unwaited.stairs import stair


def worths_for(loop, worths):
    """Returns the WORTHS of a LOOP that are as in a dict, which has perhaps other names, too; 1 for what it lacks."""
    return {name: worths.get(name, 1) for name in read_names(loop)}


def check_names(names, loop):
    """Raises NoTask(name) with the least of some names that no task has."""
    lacking = [name for name in names if name not in names_of(loop)]
    if len(lacking) > 0:
        raise NoTask(min(lacking))


def reads_another(loop, name):
    """Tells whether a task is read by another one."""
    return any([task[0] != name and name in [read for read, _ in reads_of(task[2])] for task in loop[0]])


class Kept:
    """Keeps a loop, WORTHS of it and a truth is_cut; each change of them can be taken back."""

    def __init__(self, loop):
        if not is_loop(loop):
            raise Wrong(0)
        ring = dead_ring(loop)
        if ring is not None:
            raise Dead(ring)
        # What is kept: a tuple (loop, worths, is_cut), no dict of which is ever changed; and what was ahead of it.
        self._now = (loop, worths_for(loop, {}), False)
        self._past = []

    def loop(self):
        """Returns the loop."""
        return self._now[0]

    def worths(self):
        """Returns the WORTHS."""
        return dict(self._now[1])

    def is_cut(self):
        """Returns the truth is_cut."""
        return self._now[2]

    def cells(self):
        """Returns the fewest CELLS, None if there are none."""
        return fewest_cells(self.loop(), self.is_cut())

    def matching(self):
        """Returns the least WHOLE MATCHING, None if there is none."""
        return least_matching(self.loop(), self.is_cut())

    def share(self, m):
        """Returns STAIR(m)."""
        if not is_count(m):
            raise Wrong(0)
        return stair(self.loop(), self.worths(), m, self.is_cut())

    def twin(self):
        """Returns an independent one in the same state."""
        other = Kept(self.loop())
        other._now = self._now
        other._past = list(self._past)
        return other

    def __eq__(self, other):
        """Tells whether a Kept has the same state, and the same behind it."""
        if not isinstance(other, Kept):
            return False
        return self._now == other._now and self._past == other._past

    def become(self, loop, worths, is_cut):
        """Keeps something else, if it is not the same; raises Dead(ring) if this is a LOOP that is not LIVE."""
        ring = dead_ring(loop)
        if ring is not None:
            raise Dead(ring)
        then = (loop, worths_for(loop, worths), is_cut)
        if then != self._now:
            self._past.append(self._now)
            self._now = then

    def become_loop(self, loop):
        """Keeps another LOOP, if it is not the same."""
        self.become(loop, self._now[1], self.is_cut())

    def put_task(self, task):
        """Puts a TASK in, in the place of the one with its name, if there is one."""
        if not is_task(task):
            raise Wrong(0)
        tasks, waits = self.loop()
        more = (tuple(sorted([other for other in tasks if other[0] != task[0]] + [task])), waits)
        check_names([name for name, _ in reads_of(task[2])], more)
        self.become_loop(more)

    def strike_task(self, name):
        """Takes a task out, and all WAITS that have its name."""
        if not is_name(name):
            raise Wrong(0)
        task_of(self.loop(), name)
        tasks, waits = self.loop()
        if reads_another(self.loop(), name) or len(tasks) == 1:
            raise Nothing()
        left = tuple([task for task in tasks if task[0] != name])
        self.become_loop((left, tuple([wait for wait in waits if name not in wait[:2]])))

    def put_wait(self, wait):
        """Puts a WAIT in."""
        if not is_wait(wait):
            raise Wrong(0)
        check_names(wait[:2], self.loop())
        self.become_loop(with_waits(self.loop(), tuple(sorted(set([*self.loop()[1], wait])))))

    def strike_wait(self, wait):
        """Takes a WAIT out."""
        if not is_wait(wait):
            raise Wrong(0)
        waits = self.loop()[1]
        if wait not in waits:
            raise Nothing()
        self.become_loop(with_waits(self.loop(), tuple([other for other in waits if other != wait])))

    def strike_needless(self):
        """Takes out all NEEDLESS WAITS."""
        self.become_loop(struck(self.loop()))

    def weigh(self, name, worth):
        """Gives a READ task this worth."""
        if not is_name(name):
            raise Wrong(0)
        if not is_count(worth) or worth > GREATEST_WORTH:
            raise Wrong(1)
        if name not in self._now[1]:
            raise NoTask(name)
        worths = self.worths()
        worths[name] = worth
        self.become(self.loop(), worths, self.is_cut())

    def set_cut(self, is_cut):
        """Keeps whether steps may be cut off."""
        if not isinstance(is_cut, bool):
            raise Wrong(0)
        self.become(self.loop(), self._now[1], is_cut)

    def undo(self):
        """Takes back the last change that has not been taken back."""
        if len(self._past) == 0:
            raise Nothing()
        self._now = self._past.pop()

    def changes(self):
        """Returns how many changes have not been taken back."""
        return len(self._past)
