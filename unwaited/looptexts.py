"""Texts of LOOPS: read and shown."""

from unwaited.errors import NoText, Wrong
from unwaited.expressions import expression_of, is_number_word, is_value_word, show_expression, words_of
from unwaited.forms import is_name

# The words ahead of a task's text; None where a NAME or a VALUE stands.
TASK_WORDS = ("task", None, "first", None, "=")
WAIT_WORDS = ("wait", None, None, None)


def fits_task(at, word):
    """Tells whether a word can stand at this place ahead of the text in the line of a TASK."""
    if at == 1:
        return is_name(word)
    if at == 3:
        return is_value_word(word)
    return word == TASK_WORDS[at]


def fits_wait(at, word):
    """Tells whether a word can stand at this place in the line of a WAIT."""
    if at == 0:
        return word == WAIT_WORDS[0]
    return is_number_word(word) if at == 3 else is_name(word)


def task_told(words):
    """Returns the TASK that a line tells; raises NoText(index) with the first word at which it cannot go on."""
    for at, word in enumerate(words[:len(TASK_WORDS)]):
        if not fits_task(at, word):
            raise NoText(at)
    if len(words) < len(TASK_WORDS):
        raise NoText(len(words))
    try:
        body = expression_of(words[len(TASK_WORDS):])
    except NoText as error:
        raise NoText(len(TASK_WORDS) + error.place) from None
    return (words[1], int(words[3]), body)


def wait_told(words):
    """Returns the WAIT that a line tells; raises NoText(index) with the first word at which it cannot go on."""
    for at, word in enumerate(words):
        if at == len(WAIT_WORDS) or not fits_wait(at, word):
            raise NoText(at)
    if len(words) < len(WAIT_WORDS):
        raise NoText(len(words))
    return (words[1], words[2], int(words[3]))


def means_nothing(words):
    """Tells whether a line with these words means nothing."""
    return len(words) == 0 or words[0] == "#"


def tells_task(words):
    """Tells whether a line begins as that of a TASK."""
    return len(words) > 0 and words[0] == "task"


def form_fault(words):
    """Returns the index of the first word behind which no line can go on, None if there is none."""
    try:
        if tells_task(words):
            task_told(words)
        else:
            wait_told(words)
    except NoText as error:
        return error.place
    return None


def first_lines(lines):
    """Returns the dict from each NAME that stands behind `task` to the index of the first line in which it does."""
    firsts = {}
    for at, words in enumerate(lines):
        if tells_task(words) and len(words) > 1 and is_name(words[1]):
            firsts.setdefault(words[1], at)
    return firsts


def used_names(words, fault):
    """Returns the list of the indexes of the NAMES of reads or of a WAIT in a line, ahead of a fault in its form."""
    begin = len(TASK_WORDS) if tells_task(words) else 1
    end = len(words) if fault is None else min(fault, len(words))
    return [at for at in range(begin, end) if is_name(words[at])]


def line_fault(words, at, firsts, waits):
    """Returns the least index of a word at fault in the line at this index, None if there is none; waits are
    the WAITS that lines ahead of it tell."""
    fault = form_fault(words)
    places = [] if fault is None else [fault]
    # The dict has only NAMES, so it does not matter here what else stands behind `task`.
    if tells_task(words) and len(words) > 1 and firsts.get(words[1], at) < at:
        places.append(1)
    for place in used_names(words, fault):
        if words[place] not in firsts:
            places.append(place)
    if fault is None and not tells_task(words) and wait_told(words) in waits:
        places.append(0)
    return min(places, default=None)


def read_loop(text):
    """Returns the LOOP whose lines these are; raises NoText((line, word)) with the least place of a fault."""
    if not isinstance(text, str):
        raise Wrong(0)
    lines = [words_of(line) for line in text.split("\n")]
    firsts = first_lines(lines)
    tasks = []
    waits = []
    for at, words in enumerate(lines):
        if means_nothing(words):
            continue
        fault = line_fault(words, at, firsts, waits)
        if fault is not None:
            raise NoText((at, fault))
        if tells_task(words):
            tasks.append(task_told(words))
        else:
            waits.append(wait_told(words))
    if len(tasks) == 0:
        raise NoText((len(lines), 0))
    return (tuple(sorted(tasks)), tuple(sorted(waits)))


def show_loop(loop):
    """Returns the text with a line for each TASK, and behind them for each WAIT."""
    lines = [f"task {name} first {first} = {show_expression(body)}" for name, first, body in loop[0]]
    lines.extend([f"wait {later} {earlier} {d}" for later, earlier, d in loop[1]])
    return "\n".join(lines)
