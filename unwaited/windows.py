"""WINDOWS: LOOPS that are done for so many rounds alone; the CELLS for these, and what can be kept in fewer."""

from heapq import heappop, heappush

from unwaited.arcs import arcs_by_earlier, arcs_by_later, readers_by_name, readers_of
from unwaited.errors import TooMany
from unwaited.forms import has_just_keys, is_ascending, is_count, is_step, is_tuple_of, names_in_order
from unwaited.matchings import fewest_cells
from unwaited.paths import before_along
from unwaited.runs import window_of

MOST_ROUNDS = 40


def readers_in(rounds, readers, at):
    """Returns the list of the STEPS of a WINDOW that read a STEP of this round of a task with these READERS."""
    return [(reader, at + d) for reader, d in readers if at + d < rounds]


def counting(loop, rounds):
    """Returns the ascending tuple of the STEPS of a WINDOW that COUNT."""
    least = {name: min([d for _, d in readers]) for name, readers in readers_by_name(loop).items()}
    return tuple([(name, at) for name, d in least.items() for at in range(rounds - d)])


def is_turn_in(loop, rounds, one, other, is_cut):
    """Tells whether a STEP that COUNTS has its TURN IN THE WINDOW ahead of another one."""
    before = before_along(arcs_by_later(loop), [other])
    readers = readers_in(rounds, readers_of(loop, one[0]), one[1])
    return all([step in before or (step == other and not is_cut) for step in readers])


def members_of(bits):
    """Returns the ascending list of the members of a set: a number with a bit for each."""
    members = []
    while bits:
        member = (bits & -bits).bit_length() - 1
        members.append(member)
        bits -= 1 << member
    return members


def sets_behind(loop, rounds, numbers):
    """Returns the dict from each STEP of a WINDOW to the set of those that it is BEFORE; numbers are their bits."""
    arcs = arcs_by_earlier(loop)
    order = names_in_order(loop)[::-1]
    behind = {}
    for at in reversed(range(rounds)):
        for name in order:
            bits = 0
            for _, later, d in arcs[name]:
                if at + d < rounds:
                    bits |= behind[(later, at + d)] | 1 << numbers[(later, at + d)]
            behind[(name, at)] = bits
    return behind


class Counted:
    """The STEPS of a WINDOW that COUNT, by their numbers among all of it, and their TURNS IN THE WINDOW."""

    def __init__(self, loop, rounds, is_cut):
        """turns has for each number the set of those ahead of which it has its TURN; in ranked each is behind those
        that have their TURNS ahead of it."""
        self.steps = window_of(loop, rounds)
        self.numbers = {step: number for number, step in enumerate(self.steps)}
        places = {name: place for place, name in enumerate(names_in_order(loop))}
        counted = counting(loop, rounds)
        ranks = sorted([(at, places[name], self.numbers[(name, at)]) for name, at in counted])
        self.ranked = [number for _, _, number in ranks]
        self.turns = {}
        behind = sets_behind(loop, rounds, self.numbers)
        everything = 0
        for step in counted:
            everything |= 1 << self.numbers[step]
        readers = readers_by_name(loop)
        for name, at in counted:
            bits = everything
            for reader in readers_in(rounds, readers[name], at):
                bits &= behind[reader] | (0 if is_cut else 1 << self.numbers[reader])
            self.turns[self.numbers[(name, at)]] = bits

    def counts(self, thing):
        """Tells whether any value is a STEP that COUNTS, if it is one of the loop's."""
        return thing in self.numbers and self.numbers[thing] in self.turns

    def has_turn(self, one, other):
        """Tells whether a STEP that COUNTS has its TURN ahead of another one."""
        return self.turns[self.numbers[one]] >> self.numbers[other] & 1 == 1

    def nearest(self, number):
        """Returns the list of those ahead of which one has its TURN, but none that has it ahead of them as well."""
        bits = self.turns[number]
        for other in members_of(bits):
            bits &= ~self.turns[other]
        return members_of(bits)


class Links:
    """Links from STEPS to the next ones in CHAINS, as many as can be."""

    def __init__(self, counted):
        self.turns = counted.turns
        self.then = {}
        self.ahead = {}
        self.taken = 0
        for number in self.turns:
            self.link_from(number)

    def link_from(self, number):
        """Links one more, if need be by giving others another next one."""
        givers = {}
        seen = 0
        left = [number]
        while left:
            one = left.pop()
            fresh = self.turns[one] & ~seen
            if fresh & ~self.taken:
                self.give(givers, number, one, members_of(fresh & ~self.taken)[0])
                return
            seen |= fresh
            for other in members_of(fresh):
                givers[other] = one
                left.append(self.ahead[other])

    def give(self, givers, first, one, other):
        """Links one with other, which has none ahead; the old next one of it goes to its giver, and so on to first."""
        self.taken |= 1 << other
        while one != first:
            given = self.then[one]
            self.then[one] = other
            self.ahead[other] = one
            one, other = givers[given], given
        self.then[one] = other
        self.ahead[other] = one

    def chains(self):
        """Returns the list of the CHAINS of numbers."""
        chains = []
        for number in self.turns:
            if number not in self.ahead:
                chain = [number]
                while chain[-1] in self.then:
                    chain.append(self.then[chain[-1]])
                chains.append(chain)
        return chains

    def crowd(self):
        """Returns the list of the numbers of a CROWD with a member in each of the CHAINS."""
        # What can be come to from those without a next one has no next one to spare; so one of each CHAIN can be
        # come to from there without any that has its TURN ahead of it (Koenig).
        left = [number for number in self.turns if number not in self.then]
        open_ones = {number: True for number in left}
        seen = 0
        while left:
            fresh = self.turns[left.pop()] & ~seen
            seen |= fresh
            for other in members_of(fresh):
                open_ones[self.ahead[other]] = True
                left.append(self.ahead[other])
        return [number for number in self.turns if number in open_ones and seen >> number & 1 == 0]


def cells_in(loop, rounds, is_cut):
    """Returns the fewest CELLS for all STEPS that COUNT."""
    return len(Links(Counted(loop, rounds, is_cut)).chains())


def chains_in(loop, rounds, is_cut):
    """Returns the ascending tuple of as few CHAINS as can be in which all STEPS that COUNT stand."""
    counted = Counted(loop, rounds, is_cut)
    chains = Links(counted).chains()
    return tuple(sorted([tuple([counted.steps[number] for number in chain]) for chain in chains]))


def crowd_in(loop, rounds, is_cut):
    """Returns a greatest CROWD OF THE WINDOW."""
    counted = Counted(loop, rounds, is_cut)
    return tuple([counted.steps[number] for number in sorted(Links(counted).crowd())])


def is_chain(loop, counted, thing):
    """Tells whether any value is a CHAIN."""
    if not isinstance(thing, tuple) or len(thing) == 0:
        return False
    if not all([is_step(loop, step) and counted.counts(step) for step in thing]):
        return False
    return all([counted.has_turn(one, other) for one, other in zip(thing, thing[1:])])


def are_chains(loop, rounds, is_cut, thing):
    """Tells whether any value is an ascending tuple of CHAINS, no STEP in two of them."""
    counted = Counted(loop, rounds, is_cut)
    if not isinstance(thing, tuple) or not all([is_chain(loop, counted, chain) for chain in thing]):
        return False
    steps = [step for chain in thing for step in chain]
    return len(set(steps)) == len(steps) and is_ascending(thing)


def is_crowd_in(loop, rounds, is_cut, thing):
    """Tells whether any value is a CROWD OF THE WINDOW."""
    counted = Counted(loop, rounds, is_cut)
    if not isinstance(thing, tuple) or not all([is_step(loop, step) and counted.counts(step) for step in thing]):
        return False
    return is_ascending(thing) and not any([counted.has_turn(one, other) for one in thing for other in thing])


def from_rounds(loop, is_cut):
    """Returns the least number of rounds for which cells_in is fewest_cells, None if this is None; raises
    TooMany(40) if there is none so far."""
    fewest = fewest_cells(loop, is_cut)
    if fewest is None:
        return None
    if cells_in(loop, MOST_ROUNDS, is_cut) != fewest:
        raise TooMany(MOST_ROUNDS)
    # With more rounds there are never fewer CELLS, so half of what is left can be struck each time.
    low, high = 0, MOST_ROUNDS
    while low < high:
        rounds = (low + high) // 2
        if cells_in(loop, rounds, is_cut) == fewest:
            high = rounds
        else:
            low = rounds + 1
    return low


class Flow:
    """A flow of CHAINS through the STEPS that COUNT, each of which is worth something to the first CHAIN through it
    alone. A STEP has two nodes, ahead of it and behind it; each arc stands beside the one that leads back."""

    def __init__(self, loop, worths, counted):
        self.counted = counted
        self.places = {number: place for place, number in enumerate(counted.ranked)}
        self.source = 2 * len(self.places)
        self.sink = self.source + 1
        self.prizes = [worths[counted.steps[number][0]] for number in counted.ranked]
        # What is left of an arc; None is without an end.
        self.targets = []
        self.gains = []
        self.rests = []
        self.arcs = [[] for _ in range(self.sink + 1)]
        self.heights = [0] * (self.sink + 1)
        self.came = {}
        self.many = 0
        self.worth = 0
        self.lay()
        self.lift()

    def lay_arc(self, node, target, gain, rest):
        """Lays an arc and the one that leads back along it, which nothing can go yet."""
        for begin, end, more, left in [(node, target, gain, rest), (target, node, -gain, 0)]:
            self.arcs[begin].append(len(self.targets))
            self.targets.append(end)
            self.gains.append(more)
            self.rests.append(left)

    def lay(self):
        """Lays all arcs, those through the STEPS first: four for each STEP, the first of which is worth something."""
        for place, worth in enumerate(self.prizes):
            self.lay_arc(2 * place, 2 * place + 1, worth, 1)
            self.lay_arc(2 * place, 2 * place + 1, 0, None)
        targets = {}
        for number, place in self.places.items():
            nearest = self.counted.nearest(number)
            for other in nearest:
                targets[other] = True
                self.lay_arc(2 * place + 1, 2 * self.places[other], 0, None)
            # Ways may lead through what other CHAINS have taken: so ends alone need arcs to the source or the sink.
            if len(nearest) == 0:
                self.lay_arc(2 * place + 1, self.sink, 0, None)
            if number not in targets:
                self.lay_arc(self.source, 2 * place, 0, None)

    def lift(self):
        """Gives each node as its height the greatest worth of a way to it, nothing flowing yet."""
        order = [node for place in range(len(self.places)) for node in (2 * place, 2 * place + 1)]
        for node in [self.source] + order:
            for arc in self.arcs[node]:
                if self.rests[arc] != 0:
                    height = self.heights[node] + self.gains[arc]
                    self.heights[self.targets[arc]] = max(self.heights[self.targets[arc]], height)

    def sink_down(self):
        """Gives each node the greatest worth of a way to it, given what flows: it is no greater than before."""
        sunk = {self.source: 0}
        done = {}
        self.came = {}
        left = [(0, self.source)]
        while left:
            depth, node = heappop(left)
            if node in done:
                continue
            done[node] = True
            for arc in self.arcs[node]:
                target = self.targets[arc]
                if self.rests[arc] != 0 and target not in done:
                    deeper = depth + self.heights[target] - self.heights[node] - self.gains[arc]
                    if target not in sunk or deeper < sunk[target]:
                        sunk[target] = deeper
                        self.came[target] = arc
                        heappush(left, (deeper, target))
        for node, depth in sunk.items():
            self.heights[node] -= depth

    def push(self):
        """Lets one CHAIN more flow along the way with the greatest worth."""
        self.many += 1
        self.worth += self.heights[self.sink]
        node = self.sink
        while node != self.source:
            arc = self.came[node]
            back = arc + 1 - 2 * (arc % 2)
            if self.rests[arc] is not None:
                self.rests[arc] -= 1
            if self.rests[back] is not None:
                self.rests[back] += 1
            node = self.targets[back]

    def fill(self, m):
        """Lets as many CHAINS flow as are worth something, at most m."""
        self.sink_down()
        while self.many < m and self.heights[self.sink] > 0:
            self.push()
            self.sink_down()

    def chain_from(self, used):
        """Returns the tuple of the STEPS that one CHAIN has for itself, and takes it away from what flows, used."""
        steps = []
        node = self.source
        while node != self.sink:
            arc = [one for one in self.arcs[node] if one % 2 == 0 and used[one + 1] > 0][0]
            used[arc + 1] -= 1
            if arc < 2 * self.source and arc % 4 == 0:
                steps.append(self.counted.steps[self.counted.ranked[arc // 4]])
            node = self.targets[arc]
        return tuple(steps)

    def chains(self):
        """Returns the ascending tuple of the CHAINS that flow."""
        used = list(self.rests)
        return tuple(sorted([self.chain_from(used) for _ in range(self.many)]))

    def prices(self):
        """Returns WINDOW PRICES of which nothing is to spare for what flows."""
        extras = {}
        heights = {}
        for number in self.counted.turns:
            step, place = self.counted.steps[number], self.places[number]
            heights[step] = self.heights[2 * place]
            extras[step] = max(0, self.prizes[place] + heights[step] - self.heights[2 * place + 1])
        return (self.heights[self.sink], extras, heights)


def filled(loop, worths, rounds, m, is_cut):
    """Returns the Flow of at most m CHAINS that have the greatest worth together."""
    flow = Flow(loop, worths, Counted(loop, rounds, is_cut))
    flow.fill(m)
    return flow


def most_kept_in(loop, worths, rounds, m, is_cut):
    """Returns the greatest sum of the worths of STEPS that stand in at most m CHAINS, no STEP in two of them."""
    return filled(loop, worths, rounds, m, is_cut).worth


def kept_in(loop, worths, rounds, m, is_cut):
    """Returns an ascending tuple of at most m CHAINS that have together what most_kept_in tells."""
    return filled(loop, worths, rounds, m, is_cut).chains()


def window_prices(loop, worths, rounds, m, is_cut):
    """Returns WINDOW PRICES whose SUM for m is what most_kept_in tells."""
    return filled(loop, worths, rounds, m, is_cut).prices()


def are_window_prices(loop, worths, rounds, is_cut, thing):
    """Tells whether any value is WINDOW PRICES."""
    if not is_tuple_of(thing, 3) or not is_count(thing[0]):
        return False
    cell, extras, heights = thing
    counted = Counted(loop, rounds, is_cut)
    steps = counting(loop, rounds)
    for part in (extras, heights):
        # Asked one by one, as ("a", True) would pass for ("a", 1).
        if not has_just_keys(part, steps) or not all([is_step(loop, step) for step in part]):
            return False
        if not all([is_count(number) for number in part.values()]):
            return False
    for step in steps:
        paid = worths[step[0]] - extras[step] + heights[step]
        behind = [counted.steps[number] for number in members_of(counted.turns[counted.numbers[step]])]
        if paid > min([cell] + [heights[other] for other in behind]):
            return False
    return True


def window_price_sum(prices, m):
    """Returns the SUM of WINDOW PRICES for m."""
    return m * prices[0] + sum(list(prices[1].values()))
