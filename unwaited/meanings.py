"""What STEPS come to: plain and slow, without any memory."""

from unwaited.forms import GREATEST_VALUE, names_in_order, parts_of, reads_of, task_of


def two_come_to(operator, one, other):
    """Returns what two VALUES come to."""
    if operator == "<":
        return 1 if one < other else 0
    if operator == "+":
        whole = one + other
    elif operator == "-":
        whole = one - other
    else:
        whole = one * other
    return whole % (GREATEST_VALUE + 1)


def work_out(part, at, found, values):
    """Takes the VALUES of the inner parts of an EXPRESSION from the end of values, and puts its own one there."""
    if part[0] == "number":
        values.append(part[1])
    elif part[0] == "round":
        values.append(at % (GREATEST_VALUE + 1))
    elif part[0] == "read":
        values.append(found[part[1:]])
    else:
        other = values.pop()
        one = values.pop()
        if part[0] == "two":
            values.append(two_come_to(part[1], one, other))
        else:
            values.append(one if values.pop() != 0 else other)


def parts_in_turn(expression):
    """Returns the list of the parts of an EXPRESSION in the order in which they can be worked out."""
    return parts_of(expression)[::-1]


def parts_come_to(parts, at, found):
    """Returns the VALUE of the last one of parts, each of which stands behind its inner parts."""
    values = []
    for part in parts:
        work_out(part, at, found, values)
    return values[0]


def comes_to(expression, at, found):
    """Returns the VALUE to which an EXPRESSION comes in this round, if its reads find these VALUES."""
    return parts_come_to(parts_in_turn(expression), at, found)


def first_of(loop, name):
    """Returns the first VALUE of a task."""
    return task_of(loop, name)[1]


def worked_through(loop, steps):
    """Returns the dict from STEPS, in this order, to their VALUES; what they read must stand ahead of them."""
    # Taken apart once for each task: there may be very many STEPS.
    tasks = {name: (first, parts_in_turn(body), reads_of(body)) for name, first, body in loop[0]}
    values = {}
    for name, at in steps:
        _, parts, reads = tasks[name]
        found = {}
        for earlier, d in reads:
            found[(earlier, d)] = values[(earlier, at - d)] if at >= d else tasks[earlier][0]
        values[(name, at)] = parts_come_to(parts, at, found)
    return values


def steps_needed(loop, steps):
    """Returns the list of these STEPS and of all that they read, near or far, in an order to work them out."""
    reads = {name: reads_of(body) for name, _, body in loop[0]}
    places = {name: place for place, name in enumerate(names_in_order(loop))}
    needed = {step: True for step in steps}
    left = list(needed)
    while left:
        name, at = left.pop()
        for earlier, d in reads[name]:
            if at >= d and (earlier, at - d) not in needed:
                needed[(earlier, at - d)] = True
                left.append((earlier, at - d))
    order = sorted([(at, places[name], name) for name, at in needed])
    return [(name, at) for at, _, name in order]


def value_of(loop, step):
    """Returns the VALUE of a STEP of any round."""
    # Only what is read on the way is worked out: far rounds of other tasks may be many.
    return worked_through(loop, steps_needed(loop, [step]))[step]


def values_of(loop, rounds):
    """Returns the dict from all names to the tuples of their VALUES in the rounds below this number."""
    order = names_in_order(loop)
    values = worked_through(loop, [(name, at) for at in range(rounds) for name in order])
    return {task[0]: tuple([values[(task[0], at)] for at in range(rounds)]) for task in loop[0]}


def reads_at(loop, step):
    """Returns the ascending tuple of tuples (name, d, value), one for each read of the STEP's task."""
    name, at = step
    reads = reads_of(task_of(loop, name)[2])
    meant = [(earlier, at - d) for earlier, d in reads if at >= d]
    values = worked_through(loop, steps_needed(loop, meant))
    found = []
    for earlier, d in reads:
        value = values[(earlier, at - d)] if at >= d else first_of(loop, earlier)
        found.append((earlier, d, value))
    return tuple(found)


def plain_memory(loop, run):
    """Returns the dict from the STEPS of a RUN, in its order, to their VALUES."""
    return worked_through(loop, run)
