"""TURNS: which STEP is read to its end ahead of which other one; and SHIFTS."""

from math import lcm

from unwaited.arcs import arcs_by_earlier, arcs_of, fewest_arcs, least_path, reached_along, reached_from
from unwaited.arcs import readers_by_name, readers_of
from unwaited.forms import is_count, is_tuple_of, names_in_order, names_of, read_names
from unwaited.paths import is_path, sum_of
from unwaited.sums import Pictures, least_table

NOW_AND_THEN = 64


def lot_by(loop, is_cut):
    """Returns the names of the tasks that may be cut off, by is_cut: all or none."""
    return names_of(loop) if is_cut else ()


def are_all_read(sights, s):
    """Tells whether all readers of a STEP are BEFORE the STEP that comes so many rounds later, or are it itself where
    this is not barred; sights are as sights_from returns them, not None."""
    for pictures, place, d, is_barred in sights:
        if pictures.at(s - d) >> place & 1 == 0 or (is_barred and s == d):
            return False
    return True


class Turns:
    """What TURNS there are in a LOOP; those ahead of STEPS of a lot of names are STRICT. What is found on the way
    is kept."""

    def __init__(self, loop, lot):
        self.lot = lot
        self.readers = readers_by_name(loop)
        self.names = list(self.readers)
        # The LOOP backwards: so one row of pictures for a task tells the SUMS to it from all others.
        self.turned = [(later, earlier, d) for earlier, later, d in arcs_of(loop)]
        self.order = names_in_order(loop)[::-1]
        arcs = arcs_by_earlier(loop)
        self.reached = {name: reached_along(arcs, name) for name in self.order}
        # Many tasks have the same between them, and then the same Pictures.
        self.pictures = {}
        self.between = {}
        self.sights = {}

    def pictures_between(self, reader, b):
        """Returns Pictures of the SUMS to b from all that lies between a task and b, itself among them."""
        if (reader, b) not in self.between:
            # No more than this: what lies elsewhere would have them come again later, or much later.
            names = [name for name in self.order if name in self.reached[reader] and b in self.reached[name]]
            key = (b, tuple(names))
            if key not in self.pictures:
                self.pictures[key] = Pictures(self.turned, names, b)
            self.between[(reader, b)] = self.pictures[key]
        return self.between[(reader, b)]

    def sights_from(self, a, b):
        """Returns for each of the READERS (c, d) of a a tuple: Pictures, the place of c in them, d, and whether
        no () may lead from c to b; None if no PATH leads from one of them to b."""
        if (a, b) not in self.sights:
            sights = []
            for reader, d in self.readers[a]:
                if b in self.reached[reader]:
                    pictures = self.pictures_between(reader, b)
                    sights.append((pictures, pictures.places[reader], d, reader == b and b in self.lot))
            self.sights[(a, b)] = sights if len(sights) == len(self.readers[a]) else None
        return self.sights[(a, b)]

    def has_turn(self, a, b, s):
        """Tells whether (a, i) has its TURN ahead of (b, i + s), s being any integer."""
        sights = self.sights_from(a, b)
        return sights is not None and are_all_read(sights, s)

    def again(self, a, b):
        """Returns a tuple (begin, modulus): from begin on all TURNS come again, so many rounds later."""
        begin = 0
        modulus = 1
        for pictures, _, d, _ in self.sights_from(a, b):
            pictures.draw_till_again()
            begin = max(begin, pictures.begin + d + 1)
            modulus = lcm(modulus, pictures.modulus)
        return (begin, modulus)

    def is_past(self, a, b, s):
        """Tells whether it is known that there is no TURN from s on if there has been none so far."""
        for pictures, _, _, _ in self.sights_from(a, b):
            # Drawn no farther than this: they may come again very late, and a TURN be near.
            pictures.at(s)
            if pictures.modulus == 0:
                return False
        begin, modulus = self.again(a, b)
        return s >= begin + modulus

    def least_shift(self, a, b):
        """Returns the SHIFT from a to b, None if there is none."""
        sights = self.sights_from(a, b)
        if sights is None:
            return None
        # No reader is BEFORE what stands in an earlier round.
        s = max([d for _, _, d, _ in sights])
        while not are_all_read(sights, s):
            s += 1
            if s % NOW_AND_THEN == 0 and self.is_past(a, b, s):
                return None
        return s

    def rank_of(self, name):
        """Returns how many READ tasks have their TURN ahead of a READ task in its own round: fewer for each of them,
        as TURNS follow one another."""
        return len([other for other in self.names if self.has_turn(other, name, 0)])

    def all_shifts(self):
        """Returns the dict from all couples that have a SHIFT to it, ascending."""
        least = {(a, b): self.least_shift(a, b) for a in self.names for b in self.names}
        return {couple: s for couple, s in least.items() if s is not None}


def is_turn(loop, one, other, is_cut):
    """Tells whether a STEP has its TURN ahead of another one."""
    return Turns(loop, lot_by(loop, is_cut)).has_turn(one[0], other[0], other[1] - one[1])


def turn_table(loop, a, b, is_cut):
    """Returns the TABLE of all s such that (a, i) has its TURN ahead of (b, i + s)."""
    turns = Turns(loop, lot_by(loop, is_cut))
    if turns.sights_from(a, b) is None:
        return ((), 0, 1, ())
    begin, modulus = turns.again(a, b)
    numbers = [s for s in range(begin) if turns.has_turn(a, b, s)]
    remainders = sorted([s % modulus for s in range(begin, begin + modulus) if turns.has_turn(a, b, s)])
    return least_table(numbers, begin, modulus, remainders)


def shift(loop, a, b, is_cut):
    """Returns the SHIFT from a to b, None if there is none."""
    return Turns(loop, lot_by(loop, is_cut)).least_shift(a, b)


def shifts(loop, is_cut):
    """Returns the dict from all couples (a, b) that have a SHIFT to it."""
    return Turns(loop, lot_by(loop, is_cut)).all_shifts()


def leads_back(loop, name):
    """Tells whether PATHS lead back from each reader of a task to it."""
    return all([name in reached_from(loop, reader) for reader, _ in readers_of(loop, name)])


def endless_tasks(loop):
    """Returns the ascending tuple of the READ tasks that do not lead back."""
    return tuple([name for name in read_names(loop) if not leads_back(loop, name)])


def turn_paper(loop, one, other, is_cut):
    """Returns the TURN PAPER of two STEPS with the fewest ARCS for each reader, of these the least; None if one
    has not its TURN ahead of the other."""
    if not is_turn(loop, one, other, is_cut):
        return None
    s = other[1] - one[1]
    many = fewest_arcs(loop, other[0], s)
    return {(reader, d): least_path(loop, many, reader, s - d) for reader, d in readers_of(loop, one[0])}


def is_turn_paper(loop, one, other, is_cut, thing):
    """Tells whether any value is a TURN PAPER of two STEPS."""
    readers = readers_of(loop, one[0])
    if not isinstance(thing, dict) or len(thing) != len(readers):
        return False
    for key, path in thing.items():
        # Asked one by one, as ("b", True) would pass for ("b", 1).
        if not is_tuple_of(key, 2) or not is_count(key[1]) or key not in readers:
            return False
        if not is_path(loop, key[0], other[0], path) or sum_of(path) != other[1] - one[1] - key[1]:
            return False
        if is_cut and len(path) == 0:
            return False
    return True
