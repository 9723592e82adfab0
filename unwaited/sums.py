"""TABLES of numbers that come again and again, and the SUMS of PATHS."""

from math import gcd, lcm

from unwaited.arcs import arcs_by_later, arcs_of
from unwaited.forms import has_just_keys, is_ascending, is_count, is_tuple_of, names_in_order, names_of


def is_divided(modulus, remainders, divisor):
    """Tells whether remainders come again already by a modulus that is so many times smaller."""
    smaller = modulus // divisor
    have = set(remainders)
    return all([(number + smaller) % modulus in have for number in remainders])


def with_least_modulus(modulus, remainders):
    """Returns the least modulus, and an ascending list of remainders, for the same numbers."""
    if len(remainders) == 0:
        return (1, [])
    divisor = 2
    # Remainders that come again many times by a smaller modulus are as many times more,
    # so only divisors of both numbers are worth a look: a modulus may be very great.
    while divisor <= gcd(modulus, len(remainders)):
        if gcd(modulus, len(remainders)) % divisor == 0 and is_divided(modulus, remainders, divisor):
            modulus = modulus // divisor
            remainders = remainders[:len(remainders) // divisor]
        else:
            divisor += 1
    return (modulus, list(remainders))


def last_below(modulus, remainders, most):
    """Returns the greatest integer from 0 to most - 1 with one of these ascending remainders, -1 if there is none."""
    if most == 0 or len(remainders) == 0:
        return -1
    at = most - 1
    fitting = [number for number in remainders if number <= at % modulus]
    if len(fitting) > 0:
        return at - at % modulus + fitting[-1]
    return max(at - at % modulus - modulus + remainders[-1], -1)


def least_begin(numbers, begin, modulus, remainders):
    """Returns the least begin for the same numbers, the modulus being the least one."""
    # From number to number that agree, not by ones: begin and modulus may be very great.
    for early in [*numbers[::-1], -1]:
        again = last_below(modulus, remainders, begin)
        if again != early:
            return max(again, early) + 1
        begin = early
    return 0


def least_table(numbers, begin, modulus, remainders):
    """Returns the TABLE that HAS the same numbers, all of which are as in a TABLE but for being the least one."""
    modulus, remainders = with_least_modulus(modulus, remainders)
    begin = least_begin(numbers, begin, modulus, remainders)
    return (tuple([number for number in numbers if number < begin]), begin, modulus, tuple(remainders))


def are_numbers_below(thing, most):
    """Tells whether any value is an ascending tuple of integers from 0 to most - 1."""
    if not isinstance(thing, tuple) or not all([is_count(number) and number < most for number in thing]):
        return False
    return is_ascending(thing)


def is_table(thing):
    """Tells whether any value is a TABLE, the least one for what it HAS."""
    if not is_tuple_of(thing, 4):
        return False
    numbers, begin, modulus, remainders = thing
    if not is_count(begin) or not is_count(modulus) or modulus == 0:
        return False
    if not are_numbers_below(numbers, begin) or not are_numbers_below(remainders, modulus):
        return False
    return least_table(numbers, begin, modulus, remainders) == thing


def has(table, number):
    """Tells whether a TABLE HAS an integer."""
    numbers, begin, modulus, remainders = table
    if number < begin:
        return number in numbers
    return number % modulus in remainders


def next_in(table, number):
    """Returns the least integer from number on that a TABLE HAS, None if there is none."""
    numbers, begin, modulus, remainders = table
    for early in numbers:
        if early >= number:
            return early
    if len(remainders) == 0:
        return None
    at = max(number, begin)
    for remainder in remainders:
        if remainder >= at % modulus:
            return at - at % modulus + remainder
    return at - at % modulus + modulus + remainders[0]


def moved(table, by):
    """Returns the TABLE of all that a TABLE HAS, each greater by by."""
    numbers, begin, modulus, remainders = table
    farther = tuple([number + by for number in numbers])
    return least_table(farther, begin + by, modulus, sorted([(number + by) % modulus for number in remainders]))


def had_below(table, most):
    """Returns the list of the integers below most that a TABLE HAS."""
    numbers, begin, modulus, remainders = table
    have = set(remainders)
    early = [number for number in numbers if number < most]
    return early + [number for number in range(begin, most) if number % modulus in have]


def spread(table, modulus):
    """Returns the list of the remainders of a TABLE by a modulus that is some times its own."""
    return [begin + number for begin in range(0, modulus, table[2]) for number in table[3]]


def in_both(one, other):
    """Returns the TABLE of the integers that two TABLES have both."""
    begin = max(one[1], other[1])
    modulus = lcm(one[2], other[2])
    numbers = sorted(set(had_below(one, begin)) & set(had_below(other, begin)))
    remainders = sorted(set(spread(one, modulus)) & set(spread(other, modulus)))
    return least_table(numbers, begin, modulus, remainders)


class Pictures:
    """Pictures of SUMS: the one of s is a number whose bit at a task's place is 1 if a PATH with the SUM s leads
    from the first task to this one. Each picture hangs only on the last few ones."""

    def __init__(self, arcs, order, first):
        """Only PATHS by way of the names in order are asked, which must have all that is between two of them;
        each stands behind those from which ARCS with d 0 lead to it."""
        self.places = {name: place for place, name in enumerate(order)}
        inner = [arc for arc in arcs if arc[0] in self.places and arc[1] in self.places]
        reached = self.reached_at_once(order, inner)
        self.jumps = self.jumps_along(inner, reached)
        self.known = {d: {0: 0} for d in self.jumps}
        self.depth = max(list(self.jumps), default=1)
        self.drawn = [reached.get(first, 0)]
        # Where the last pictures have come so far; and how they come again, 0 as long as this is not known.
        self.seen = {}
        self.begin = 0
        self.modulus = 0

    def reached_at_once(self, order, arcs):
        """Returns the dict from each name to the picture of the tasks to which PATHS with the SUM 0 lead from it."""
        reached = {}
        for name in order[::-1]:
            reached[name] = 1 << self.places[name]
            for earlier, later, d in arcs:
                if earlier == name and d == 0:
                    reached[name] |= reached[later]
        return reached

    def jumps_along(self, arcs, reached):
        """Returns the dict from each d above 0 to a list: for each place the picture to which ARCS with this d,
        and PATHS with the SUM 0 behind them, lead from this task."""
        jumps = {}
        for earlier, later, d in arcs:
            if d > 0:
                targets = jumps.setdefault(d, [0] * len(self.places))
                targets[self.places[earlier]] |= reached[later]
        return jumps

    def jumped(self, d, picture):
        """Returns the picture to which ARCS with this d lead from a picture; each is worked out once."""
        if picture not in self.known[d]:
            bits = 0
            for place, target in enumerate(self.jumps[d]):
                if picture >> place & 1:
                    bits |= target
            self.known[d][picture] = bits
        return self.known[d][picture]

    def draw(self):
        """Draws the next picture."""
        at = len(self.drawn)
        bits = 0
        for d in self.jumps:
            if d <= at:
                bits |= self.jumped(d, self.drawn[at - d])
        self.drawn.append(bits)

    def draw_below(self, most):
        """Draws all pictures of numbers below most."""
        while len(self.drawn) < most:
            self.draw()

    def last(self):
        """Returns the tuple of the last pictures, as many as the next one can hang on."""
        return tuple(self.drawn[-self.depth:])

    def draw_or_end(self):
        """Draws the next picture, if the last ones have not come before; otherwise keeps how they come again."""
        last = self.last()
        if last in self.seen:
            self.begin = self.seen[last]
            self.modulus = len(self.drawn) - self.begin
            return
        # At first there are fewer than depth of them: what comes later is never as short.
        self.seen[last] = len(self.drawn)
        self.draw()

    def draw_till_again(self):
        """Draws pictures till it is known how they come again: from begin on, each so many numbers later."""
        while self.modulus == 0:
            self.draw_or_end()

    def at(self, number):
        """Returns the picture of any integer, which may be very great; 0 if it is below 0."""
        if number < 0:
            return 0
        while number >= len(self.drawn) and self.modulus == 0:
            self.draw_or_end()
        if number < len(self.drawn):
            return self.drawn[number]
        return self.drawn[self.begin + (number - self.begin) % self.modulus]

    def sums_to(self, name, begin, end):
        """Returns the list of the numbers from begin to end - 1 in whose pictures a task stands."""
        place = self.places[name]
        return [number for number in range(begin, end) if self.drawn[number] >> place & 1]


def names_to(loop, name):
    """Returns the list of the names from which PATHS lead to a task, its own among them."""
    arcs = arcs_by_later(loop)
    names = {name: True}
    left = [name]
    while left:
        later = left.pop()
        for earlier, _, _ in arcs[later]:
            if earlier not in names:
                names[earlier] = True
                left.append(earlier)
    return sorted(list(names))


def pictures_to(loop, one, other):
    """Returns Pictures of the SUMS from one by way of all names from which PATHS lead to other."""
    names = names_to(loop, other)
    return Pictures(arcs_of(loop), [name for name in names_in_order(loop) if name in names], one)


def sum_table(loop, one, other):
    """Returns the TABLE that HAS the SUMS of all PATHS from one to other."""
    pictures = pictures_to(loop, one, other)
    pictures.draw_till_again()
    begin, modulus = pictures.begin, pictures.modulus
    remainders = sorted([number % modulus for number in pictures.sums_to(other, begin, begin + modulus)])
    return least_table(pictures.sums_to(other, 0, begin), begin, modulus, remainders)


def sums_below(loop, one, other, most):
    """Returns the ascending tuple of the SUMS below most of PATHS from one to other."""
    pictures = pictures_to(loop, one, other)
    pictures.draw_below(most)
    return tuple(pictures.sums_to(other, 0, most))


def reach(loop, name, most):
    """Returns the REACH of a name: for each task the SUMS up to and with most of PATHS to it."""
    pictures = Pictures(arcs_of(loop), names_in_order(loop), name)
    pictures.draw_below(most + 1)
    return {later: tuple(pictures.sums_to(later, 0, most + 1)) for later in names_of(loop)}


def is_closed(loop, most, sums):
    """Tells whether each number of a task is carried along by each ARC from it; sums has for each name a dict
    whose keys are the numbers."""
    for earlier, later, d in arcs_of(loop):
        if not all([number + d in sums[later] for number in sums[earlier] if number + d <= most]):
            return False
    return True


def is_founded(loop, name, sums):
    """Tells whether each number of a task, other than the 0 of name itself, comes along an ARC to it."""
    arcs = arcs_by_later(loop)
    for later, numbers in sums.items():
        for number in numbers:
            if (later, number) == (name, 0):
                continue
            if not any([number - d in sums[earlier] for earlier, _, d in arcs[later]]):
                return False
    return True


def is_reach(loop, name, most, thing):
    """Tells whether any value is the REACH of a name."""
    if not has_just_keys(thing, names_of(loop)):
        return False
    if not all([are_numbers_below(numbers, most + 1) for numbers in thing.values()]):
        return False
    sums = {later: {number: True for number in thing[later]} for later in names_of(loop)}
    # In a LIVE LOOP nothing can be its own ground by ARCS with d 0, so what is founded is reached.
    return 0 in sums[name] and is_closed(loop, most, sums) and is_founded(loop, name, sums)
