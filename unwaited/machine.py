"""CODE: what tasks do, with RINGS, as rows of small deeds; and what STEPS come to in CELLS."""

from unwaited.forms import GREATEST_VALUE, read_names, reads_of
from unwaited.keepings import cell_of
from unwaited.meanings import first_of, parts_come_to, parts_in_turn, two_come_to


def bases_of(rings):
    """Returns the dict from each member to a tuple (base, size, offset): its CELLS begin at base."""
    bases = {}
    base = 0
    for size, members in rings:
        for name, offset in members:
            bases[name] = (base, size, offset)
        base += size
    return bases


def row_of(loop, bases, part):
    """Returns the ROW of a part of an EXPRESSION, those of its inner parts being done."""
    if part[0] == "number":
        return ("push", part[1])
    if part[0] == "two":
        return ("two", part[1])
    if part[0] == "if":
        return ("pick",)
    if part[0] == "round":
        return ("round",)
    _, name, d = part
    if name in bases:
        return ("load", *bases[name], d, first_of(loop, name))
    return ("slow", name, d, first_of(loop, name))


def last_row(read, bases, name):
    """Returns the ROW that puts away what a STEP of a task comes to, read being the names of all READ tasks."""
    if name in bases:
        return ("store", *bases[name])
    return ("keep", name) if name in read else ("drop",)


def code_of(loop, rings):
    """Returns the dict from the names of all tasks to their CODES."""
    bases = bases_of(rings)
    read = read_names(loop)
    code = {}
    for name, _, body in loop[0]:
        rows = [row_of(loop, bases, part) for part in parts_in_turn(body)]
        code[name] = (*rows, last_row(read, bases, name))
    return code


class Memory:
    """CELLS and a slow store, all empty at first."""

    def __init__(self):
        self.places = {}
        self.stored = {}

    def loaded(self, row, at):
        """Returns what a `load` or `slow` puts there in this round."""
        d, first = row[-2:]
        if at < d:
            return first
        if row[0] == "slow":
            return self.stored[(row[1], at - d)]
        _, base, size, offset, _, _ = row
        return self.places[base + (at - d - offset) % size]

    def put_away(self, row, at, value):
        """Does the last ROW of a CODE in this round."""
        if row[0] == "store":
            _, base, size, offset = row
            self.places[base + (at - offset) % size] = value
        elif row[0] == "keep":
            self.stored[(row[1], at)] = value

    def do_row(self, row, at, numbers):
        """Does a ROW that is not the last one, with the row of numbers so far."""
        if row[0] == "push":
            numbers.append(row[1])
        elif row[0] == "round":
            numbers.append(at % (GREATEST_VALUE + 1))
        elif row[0] == "two":
            other = numbers.pop()
            numbers.append(two_come_to(row[1], numbers.pop(), other))
        elif row[0] == "pick":
            other = numbers.pop()
            one = numbers.pop()
            numbers.append(one if numbers.pop() != 0 else other)
        else:
            numbers.append(self.loaded(row, at))

    def do_step(self, rows, at):
        """Does the CODE of a task in a round; returns what this comes to."""
        numbers = []
        for row in rows[:-1]:
            self.do_row(row, at, numbers)
        value = numbers.pop()
        self.put_away(rows[-1], at, value)
        return value


def run_code(code, run):
    """Returns the dict from the STEPS of a RUN, ascending, to what they come to when they are done in its order."""
    memory = Memory()
    values = {}
    for name, at in run:
        values[(name, at)] = memory.do_step(code[name], at)
    return {step: values[step] for step in sorted(list(values))}


def run_keeping(loop, keeping, run):
    """Returns the dict from the STEPS of a RUN, ascending, to what their bodies come to, each kept STEP being read
    from its CELL, whatever is there."""
    # Taken apart once for each task, not for each STEP.
    tasks = {name: (first, parts_in_turn(body), reads_of(body)) for name, first, body in loop[0]}
    places = {}
    values = {}
    for name, at in run:
        _, parts, reads = tasks[name]
        finds = {}
        for earlier, d in reads:
            if at < d:
                finds[(earlier, d)] = tasks[earlier][0]
            elif cell_of(keeping, (earlier, at - d)) is None:
                finds[(earlier, d)] = values[(earlier, at - d)]
            else:
                finds[(earlier, d)] = places[cell_of(keeping, (earlier, at - d))]
        values[(name, at)] = parts_come_to(parts, at, finds)
        if name in keeping[1]:
            places[cell_of(keeping, (name, at))] = values[(name, at)]
    return {step: values[step] for step in sorted(list(values))}


def code_text(code):
    """Returns the text of CODES: a line with each name, and one for each ROW."""
    lines = []
    for name in sorted(list(code)):
        lines.append(name + ":")
        for row in code[name]:
            lines.append(" ".join([str(item) for item in row]))
    return "\n".join(lines)
