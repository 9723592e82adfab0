"""A desk: a Kept that is led by lines."""

from unwaited.covers import covers, needless_waits
from unwaited.crowds import greatest_crowd
from unwaited.cuts import price_of_cuts
from unwaited.errors import Dead, NoCommand, NoTask, NoText, Nothing, Wrong
from unwaited.expressions import is_number_word, words_of
from unwaited.forms import is_name, names_of, read_names
from unwaited.fractions import fraction_text
from unwaited.kept import Kept
from unwaited.looptexts import read_loop, show_loop, task_told, wait_told
from unwaited.meanings import values_of
from unwaited.paths import is_before
from unwaited.stairs import corners
from unwaited.turns import shift, shifts

# The greatest number that each of these words stands for; any number for None.
MOST = {"D": None, "NUMBER": 1000, "ROUND": 10000, "M": 60}


def told(thing):
    """Returns the word for a number, or for None."""
    return "none" if thing is None else str(thing)


def joined(items):
    """Returns the line of some strings and numbers."""
    return " ".join([str(item) for item in items])


def strike_task(kept, given):
    """Strikes a task."""
    kept.strike_task(given[0])


def strike_wait(kept, given):
    """Strikes a WAIT."""
    kept.strike_wait(tuple(given))


def strike_needless(kept, given):
    """Strikes all NEEDLESS WAITS."""
    kept.strike_needless()


def weigh(kept, given):
    """Gives a task a worth."""
    kept.weigh(given[0], given[1])


def cut_on(kept, given):
    """Lets steps be cut off."""
    kept.set_cut(True)


def cut_off(kept, given):
    """Lets no steps be cut off."""
    kept.set_cut(False)


def undo(kept, given):
    """Takes the last change back."""
    kept.undo()


def loop_lines(kept, given):
    """Returns the lines of the loop."""
    return show_loop(kept.loop()).split("\n")


def cells_lines(kept, given):
    """Returns the line with the fewest CELLS."""
    return [told(kept.cells())]


def matching_lines(kept, given):
    """Returns a line for each key of the least WHOLE MATCHING."""
    matching = kept.matching()
    if matching is None:
        return [told(None)]
    least = shifts(kept.loop(), kept.is_cut())
    return [joined([a, b, least[(a, b)]]) for a, b in matching.items()]


def crowd_lines(kept, given):
    """Returns a line for each STEP of a greatest CROWD."""
    crowd = greatest_crowd(kept.loop(), kept.is_cut())
    return [told(None)] if crowd is None else [joined(step) for step in crowd]


def share_lines(kept, given):
    """Returns the line with STAIR(m)."""
    return [fraction_text(kept.share(given[0]))]


def corners_lines(kept, given):
    """Returns a line for each CORNER."""
    return [joined(corner) for corner in corners(kept.loop(), kept.worths(), kept.is_cut())]


def covers_lines(kept, given):
    """Returns a line for each COVER."""
    return [joined(arc) for arc in covers(kept.loop())]


def needless_lines(kept, given):
    """Returns a line for each NEEDLESS WAIT."""
    return [joined(wait) for wait in needless_waits(kept.loop())]


def values_lines(kept, given):
    """Returns a line for each task with the VALUES of its first rounds."""
    return [joined([name, *values]) for name, values in values_of(kept.loop(), given[0]).items()]


def shift_lines(kept, given):
    """Returns the line with a SHIFT."""
    return [told(shift(kept.loop(), given[0], given[1], kept.is_cut()))]


def before_lines(kept, given):
    """Returns the line that tells whether a STEP is BEFORE another one."""
    a, i, b, j = given
    return ["yes" if is_before(kept.loop(), (a, i), (b, j)) else "no"]


def price_lines(kept, given):
    """Returns the line with the fewest CELLS without cuts and with them."""
    return [joined([told(many) for many in price_of_cuts(kept.loop())])]


# The forms of lines: words in capitals stand for others, NAME for any NAME, TASK and READ for those of such tasks.
CHANGES = {"strike task NAME": strike_task, "strike wait NAME NAME D": strike_wait, "strike needless": strike_needless,
           "worth NAME NUMBER": weigh, "cuts on": cut_on, "cuts off": cut_off, "undo": undo}
QUESTIONS = {"loop": loop_lines, "cells": cells_lines, "matching": matching_lines, "crowd": crowd_lines,
             "share M": share_lines, "corners": corners_lines, "covers": covers_lines, "needless": needless_lines,
             "values M": values_lines, "shift READ READ": shift_lines, "before TASK ROUND TASK ROUND": before_lines,
             "price": price_lines}


def is_number_up_to(word, most):
    """Tells whether a word is a NUMBER word up to most, or any one if this is None."""
    if not is_number_word(word):
        return False
    return most is None or (len(word) <= len(str(most)) and int(word) <= most)


def fits_word(loop, kind, word):
    """Tells whether a word can stand where the form of a line has this one."""
    if kind in MOST:
        return is_number_up_to(word, MOST[kind])
    if kind == "NAME":
        return is_name(word)
    if kind == "TASK":
        return word in names_of(loop)
    if kind == "READ":
        return word in read_names(loop)
    return word == kind


def fits(loop, form, words):
    """Tells whether the words of a line have this form."""
    kinds = form.split(" ")
    return len(kinds) == len(words) and all([fits_word(loop, kind, word) for kind, word in zip(kinds, words)])


def given_by(form, words):
    """Returns the list of what the words say where the form has capitals: numbers, and names."""
    given = []
    for kind, word in zip(form.split(" "), words):
        if kind in MOST:
            given.append(int(word))
        elif kind.isupper():
            given.append(word)
    return given


class Desk:
    """Leads a Kept by lines."""

    def __init__(self, text):
        if not isinstance(text, str):
            raise Wrong(0)
        self._led = Kept(read_loop(text))

    def kept(self):
        """Returns a twin of the Kept."""
        return self._led.twin()

    def put(self, words):
        """Puts in what the line of a TASK or of a WAIT tells; raises NoText(index) if it tells none."""
        if words[0] == "task":
            self._led.put_task(task_told(words))
        else:
            self._led.put_wait(wait_told(words))

    def change(self, line, words):
        """Does what the line of a change tells; raises NoCommand(line) if it is none."""
        if len(words) > 0 and words[0] in ("task", "wait"):
            self.put(words)
            return
        for form in CHANGES:
            if fits(self._led.loop(), form, words):
                action = CHANGES[form]
                action(self._led, given_by(form, words))
                return
        raise NoCommand(line)

    def execute(self, line):
        """Does a change, or answers a question: returns a list of strings."""
        if not isinstance(line, str) or "\n" in line:
            raise Wrong(0)
        words = words_of(line)
        for form in QUESTIONS:
            if fits(self._led.loop(), form, words):
                action = QUESTIONS[form]
                return action(self._led, given_by(form, words))
        try:
            self.change(line, words)
        except NoText:
            raise NoCommand(line) from None
        except Dead:
            return ["refused Dead"]
        except NoTask:
            return ["refused NoTask"]
        except Nothing:
            return ["refused Nothing"]
        return ["done"]
