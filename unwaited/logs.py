"""Logs: what a Hall was told, line by line; and Halls that are opened again by them."""

from unwaited.errors import NoText, Nothing, Unlike, Wrong
from unwaited.expressions import is_number_word, is_value_word
from unwaited.hall import MOST_WORKERS, Hall


def log_text(lines):
    """Returns the text of some LINES, or other strings: each with a line feed behind it."""
    return "".join([line + "\n" for line in lines])


def whole_lines(text):
    """Returns the tuple of the lines of a text that have a line feed behind them."""
    if not isinstance(text, str):
        raise Wrong(0)
    return tuple(text.split("\n")[:-1])


def is_worker_word(word):
    """Tells whether a word stands for a worker."""
    return is_number_word(word) and len(word) == 1 and int(word) < MOST_WORKERS


def is_line(words):
    """Tells whether these words, each parted from the next one by one blank, are a LINE."""
    if len(words) < 2 or not is_worker_word(words[1]):
        return False
    if len(words) == 2:
        return words[0] == "ask"
    if len(words) > 3:
        return False
    return (words[0] in ("done", "fall") and is_value_word(words[2])) or (words[0] == "fall" and words[2] == "none")


def could_follow(hall, words):
    """Does in a Hall what the words of a LINE tell; tells whether it could, otherwise nothing has changed."""
    worker = int(words[1])
    if words[0] == "ask":
        return worker not in hall.hands() and hall.ask(worker) is not None
    value = None if words[2] == "none" else int(words[2])
    try:
        if words[0] == "done":
            hall.done(worker, value)
        else:
            hall.fall(worker, value)
    except (Nothing, Unlike):
        return False
    return True


def reopened(loop, keeping, text):
    """Returns the Hall whose LINES are the whole lines of a text; raises NoText(place) with the index of the first
    one that is no LINE, or cannot stand there."""
    hall = Hall(loop, keeping)
    if not isinstance(text, str):
        raise Wrong(2)
    for place, line in enumerate(whole_lines(text)):
        words = line.split(" ")
        if not is_line(words) or not could_follow(hall, words):
            raise NoText(place)
    return hall


def everybody_falls(hall):
    """Lets each worker with a STEP in hand fall without having written; returns the tuple of these workers."""
    workers = tuple(hall.hands())
    for worker in workers:
        hall.fall(worker, None)
    return workers
