"""Drawings: texts of KEEPINGS, of what a RUN reads and writes, and of what stands in the memory."""

from unwaited.errors import NoText, Wrong
from unwaited.expressions import is_number_word, words_of
from unwaited.forms import is_live_loop, read_names, reads_of
from unwaited.keepings import cell_of, cells_many, found
from unwaited.looptexts import means_nothing


def item_word(cell):
    """Returns the word for an item of a row."""
    return "-" if cell is None else str(cell)


def keeping_text(loop, keeping):
    """Returns the text with a line for each READ task: its name, and the numbers of its CELLS."""
    rows = keeping[1]
    return "\n".join([" ".join([name] + [item_word(cell) for cell in rows[name]]) for name in read_names(loop)])


def row_fault(words, period):
    """Returns the index of the first word at fault behind the first one of a line, if period is the number of items
    in the first line; None if there is none."""
    for place, word in enumerate(words[1:]):
        if place == period or (word != "-" and not is_number_word(word)):
            return place + 1
    return len(words) if len(words) <= period or len(words) == 1 else None


def rows_of(loop, lines):
    """Returns the dict from names to the lists of the words of their items; raises NoText(place) for the first fault
    in a line."""
    names = read_names(loop)
    rows = {}
    period = None
    for at, words in enumerate(lines):
        if means_nothing(words):
            continue
        if words[0] not in names or words[0] in rows:
            raise NoText((at, 0))
        if period is None:
            period = len(words) - 1
        fault = row_fault(words, period)
        if fault is not None:
            raise NoText((at, fault))
        rows[words[0]] = words[1:]
    return rows


def have_all_numbers(rows):
    """Tells whether the NUMBER words in rows are those of all numbers from 0 up to the greatest one."""
    # Asked as words, as they may have so many digits that they can hardly be read.
    told = set([word for row in rows.values() for word in row if word != "-"])
    return all([str(number) in told for number in range(len(told))])


def read_keeping(loop, text):
    """Returns the KEEPING of which this is the text; raises NoText((line, word)) with the least place of a fault."""
    if not is_live_loop(loop):
        raise Wrong(0)
    if not isinstance(text, str):
        raise Wrong(1)
    lines = [words_of(line) for line in text.split("\n")]
    rows = rows_of(loop, lines)
    names = read_names(loop)
    if len(rows) < len(names):
        raise NoText((len(lines), 0))
    if not have_all_numbers(rows):
        raise NoText((len(lines), 1))
    cells = {name: tuple([None if word == "-" else int(word) for word in rows[name]]) for name in names}
    return (max([len(row) for row in cells.values()], default=1), cells)


def step_word(step):
    """Returns the word for a STEP."""
    return f"{step[0]}:{step[1]}"


def read_word(keeping, step, finds):
    """Returns the word for a read of the STEP meant, finds being the dict from such STEPS to those that are found."""
    if step[1] < 0:
        return "first"
    if cell_of(keeping, step) is None:
        return "slow"
    return step_word(finds[step]) + ("" if finds[step] == step else "!")


def run_line(reads, keeping, step, finds):
    """Returns the words, in one string, for a STEP of a RUN with these reads; finds as for read_word."""
    name, at = step
    words = [name, str(at), "reads"]
    for earlier, d in reads:
        words.append(read_word(keeping, (earlier, at - d), finds))
    if name not in keeping[1]:
        place = "none"
    elif cell_of(keeping, step) is None:
        place = "slow"
    else:
        place = str(cell_of(keeping, step))
    return " ".join(words + ["to", place])


def run_lines(loop, keeping, run):
    """Returns a tuple with a string for each STEP of a RUN: what it reads where, and where it writes."""
    reads = {name: reads_of(body) for name, _, body in loop[0]}
    lines = []
    for step, finds in found(loop, keeping, run):
        there = {(name, step[1] - d): other for name, d, other in finds}
        lines.append(run_line(reads[step[0]], keeping, step, there))
    return tuple(lines)


def memory_line(loop, keeping, run):
    """Returns a string with a word for each CELL: the STEP that has written there last, or a dot."""
    words = ["."] * cells_many(keeping)
    for step in run:
        if step[0] in keeping[1] and cell_of(keeping, step) is not None:
            words[cell_of(keeping, step)] = step_word(step)
    return " ".join(words)
