"""[35]: a hall of workers; what [8] and [10] promise of it, and what [3] and [4] say."""

import unittest

from halls import SlowHall, right_keepings, state_of, work_honestly
from slow import Slow
from support import ALONE, ANY, BELT, PAIR, loop_of, mangled, random_live_loop, rng_of, same
from unwaited.errors import Nothing, Unlike, Wrong
from unwaited.forms import is_keeping, is_live_loop
from unwaited.hall import Hall
from unwaited.judged import is_right
from unwaited.keepings import longer
from unwaited.looptexts import read_loop
from unwaited.runs import is_cut_run

CHAIN = loop_of(("a", []), ("b", [("a", 0)]), ("c", [("b", 0), ("c", 1)]), ("a", "c", 1))
CHAIN_KEEPING = (2, {"a": (0, 1), "b": (2, 2), "c": (0, 1)})
OWN = loop_of(("a", [("a", 1)]))


class Halls(unittest.TestCase):
    def check_state(self, hall, slow_hall):
        told = state_of(hall)
        self.assertTrue(same(told, slow_hall.state()), (told, slow_hall.state()))
        for part in (told[0], told[2], told[3]):
            self.assertEqual(list(part), sorted(part))

    def both(self, hall, slow_hall, worker, value, is_whole):
        """Tells both; they must do, or refuse, the same."""
        try:
            slow_hall.tell(worker, value, is_whole)
            refused = None
        except (Nothing, Unlike) as error:
            refused = error
        call = hall.done if is_whole else hall.fall
        if refused is None:
            self.assertIsNone(call(worker, value))
        else:
            with self.assertRaises(type(refused)) as caught:
                call(worker, value)
            self.assertEqual(vars(caught.exception), vars(refused))
        return refused

    def test_as_said(self):
        # Any workers, honest or not: what is handed out, and all that is told.
        rng = rng_of(351)
        refused, gaps, cases = {Nothing: 0, Unlike: 0}, 0, 0
        for _ in range(120):
            slow = Slow(random_live_loop(rng, 4, 3, 5))
            for keeping in rng.sample(right_keepings(rng, slow), 1):
                hall, slow_hall = Hall(slow.loop, keeping), SlowHall(slow, keeping)
                for _ in range(60):
                    worker = rng.randrange(rng.choice((2, 4, 8)))
                    if rng.random() < 0.5:
                        told = hall.ask(worker)
                        self.assertTrue(same(told, slow_hall.ask(worker)))
                    else:
                        is_whole = rng.random() < 0.6
                        value = rng.choice((7, 7, 7, 0, 9999)) if is_whole or rng.random() < 0.7 else None
                        error = self.both(hall, slow_hall, worker, value, is_whole)
                        if error is not None:
                            refused[type(error)] += 1
                    if rng.random() < 0.2:
                        self.check_state(hall, slow_hall)
                self.check_state(hall, slow_hall)
                self.assertIs(is_cut_run(slow.loop, hall.cut_run()), True)
                gaps += any(later for _, later in hall.marks().values())
                cases += 1
        self.assertGreater(min(refused.values()), 100)
        self.assertGreater(gaps, 30)

    def test_honest_workers_are_handed_the_plain_values(self):
        # [8], [10]: whoever falls when.
        rng = rng_of(352)
        fallen = 0
        for _ in range(60):
            loop = random_live_loop(rng, 4, 3, 6)
            slow = Slow(loop)
            for keeping in right_keepings(rng, slow):
                hall = Hall(loop, keeping)
                work_honestly(self, rng, loop, hall, 60, rng.randint(1, 8), rng.choice((0, 0.3, 0.7)))
                fallen += any(not is_whole for _, is_whole in hall.cut_run())
        self.assertGreater(fallen, 60)

    def test_slow_workers(self):
        # One has (b, 0) in hand for ever; who does not need it goes on.
        loop = loop_of(("a", [("a", 1)]), ("b", [("a", 0)]), ("c", [("b", 0), ("c", 2)]))
        hall = Hall(loop, (1, {"a": (None,), "b": (None,), "c": (None,)}))
        hall.ask(0)
        hall.done(0, 1)
        self.assertEqual(hall.ask(7)[0], ("b", 0))
        work_honestly(self, rng_of(353), loop, hall, 400, 7, 0.1)
        self.assertEqual(hall.hands()[7], ("b", 0))
        marks = hall.marks()
        self.assertGreater(marks["a"][0], 30)
        self.assertEqual([marks["b"][0], marks["c"][0], marks["c"][1][:3]], [0, 0, (1, 3, 5)])

    def test_one_far_ahead(self):
        free = loop_of(("a", []), ("b", [("a", 1)]))
        hall = Hall(free, (1, {"a": (None,)}))
        self.assertEqual([hall.ask(worker)[0] for worker in range(4)], [("a", 0), ("b", 0), ("a", 1), ("a", 2)])
        for at in range(3, 1000):
            self.assertEqual(hall.ask(4)[0], ("a", at))
            hall.done(4, at)
            if at > 3:
                self.assertEqual(hall.ask(5)[0], ("b", at))
                hall.done(5, 0)
        self.assertEqual(hall.marks(), {"a": (0, tuple(range(3, 1000))), "b": (0, tuple(range(4, 1000)))})
        self.assertEqual(hall.hands(), {0: ("a", 0), 1: ("b", 0), 2: ("a", 1), 3: ("a", 2)})
        hall.fall(2, None)
        self.assertEqual(hall.ask(6)[0], ("a", 1))
        hall.done(6, 1)
        self.assertEqual([hall.ask(5)[0], hall.ask(6)[0], hall.ask(7)[0]], [("b", 2), ("a", 1000), ("b", 1000)])

    def test_nothing_to_hand_out(self):
        hall = Hall(OWN, (2, {"a": (0, 1)}))
        self.assertEqual(hall.ask(0), (("a", 0), (("a", 1, 1),)))
        before = state_of(hall)
        self.assertEqual([hall.ask(worker) for worker in range(1, 8)], [None] * 7)
        self.assertEqual(hall.ask(0), (("a", 0), (("a", 1, 1),)))
        self.assertEqual(state_of(hall), before)
        self.assertEqual(hall.lines(), ("ask 0",))
        hall.fall(0, None)
        self.assertEqual(hall.ask(6)[0], ("a", 0))

    def test_new_ones(self):
        hall = Hall(CHAIN, CHAIN_KEEPING)
        self.assertEqual(state_of(hall), ({}, (None, None, None), {}, {"a": (0, ()), "b": (0, ()), "c": (0, ())}, (), ()))
        self.assertEqual(state_of(Hall(ALONE, (1, {})))[1:3], ((), {}))

    def test_falls(self):
        hall = Hall(CHAIN, CHAIN_KEEPING)
        for call in (hall.done, hall.fall):
            self.assertRaises(Nothing, call, 3, 5)
        self.assertRaises(Nothing, hall.fall, 3, None)
        hall.ask(3)
        hall.fall(3, None)
        self.assertEqual([hall.cells(), hall.cut_run(), hall.hands()], [(None, None, None), (), {}])
        self.assertRaises(Nothing, hall.fall, 3, None)
        hall.ask(2)
        hall.fall(2, 4)
        self.assertEqual([hall.cells(), hall.cut_run(), hall.marks()["a"]], [(4, None, None), ((("a", 0), False),), (0, ())])
        hall.ask(1)
        for call in (hall.done, hall.fall):
            for value in (3, 5, 0):
                before = state_of(hall)
                with self.assertRaises(Unlike) as caught:
                    call(1, value)
                self.assertEqual(caught.exception.step, ("a", 0))
                self.assertEqual(state_of(hall), before)
        hall.fall(1, None)
        hall.ask(1)
        hall.fall(1, 4)
        hall.ask(5)
        hall.done(5, 4)
        self.assertEqual(hall.lines(), ("ask 3", "fall 3 none", "ask 2", "fall 2 4", "ask 1", "fall 1 none", "ask 1",
                                        "fall 1 4", "ask 5", "done 5 4"))
        self.assertEqual(hall.cut_run(), ((("a", 0), False), (("a", 0), False), (("a", 0), True)))
        self.assertRaises(Nothing, hall.done, 5, 4)

    def test_unlike_where_nothing_is_written(self):
        # c is read by nobody, a in the slow store: what a fall has told counts there, too.
        loop = loop_of(("a", []), ("b", [("a", 0)]), ("c", []))
        hall = Hall(loop, (1, {"a": (None,)}))
        hall.ask(0)
        hall.ask(1)
        self.assertEqual(hall.hands(), {0: ("a", 0), 1: ("c", 0)})
        hall.fall(0, 9)
        hall.fall(1, 8)
        self.assertEqual([hall.cells(), hall.slow()], [(), {("a", 0): 9}])
        self.assertEqual([hall.ask(4)[0], hall.ask(5)[0]], [("a", 0), ("c", 0)])
        for worker, step in ((4, ("a", 0)), (5, ("c", 0))):
            with self.assertRaises(Unlike) as caught:
                hall.done(worker, 7)
            self.assertEqual(caught.exception.step, step)
        hall.done(4, 9)
        hall.done(5, 8)
        self.assertEqual(hall.slow(), {("a", 0): 9})
        self.assertEqual(hall.cut_run(), ((("a", 0), False), (("c", 0), False), (("a", 0), True), (("c", 0), True)))

    def test_two_asks_give_one_tuple(self):
        hall = Hall(CHAIN, CHAIN_KEEPING)
        first = hall.ask(4)
        self.assertEqual([hall.ask(4), hall.ask(4), hall.lines()], [first, first, ("ask 4",)])

    def test_gaps(self):
        loop = read_loop("task a first 0 = 1\ntask b first 0 = a @ 2")
        hall = Hall(loop, (1, {"a": (None,)}))
        asked = [hall.ask(worker)[0] for worker in range(8)]
        self.assertEqual(asked, [("a", 0), ("b", 0), ("a", 1), ("b", 1), ("a", 2), ("a", 3), ("a", 4), ("a", 5)])
        for worker in (4, 6, 7):
            hall.done(worker, 1)
        self.assertEqual(hall.marks(), {"a": (0, (2, 4, 5)), "b": (0, ())})
        hall.done(0, 1)
        self.assertEqual(hall.marks(), {"a": (1, (2, 4, 5)), "b": (0, ())})
        self.assertEqual([hall.ask(0)[0], hall.ask(4)[0], hall.ask(6)[0]], [("b", 2), ("b", 4), ("a", 6)])
        hall.done(2, 1)
        self.assertEqual(hall.marks()["a"], (3, (4, 5)))

    def test_what_is_returned_is_new(self):
        hall = Hall(CHAIN, (2, {"c": (0, 1), "a": (0, 1), "b": (2, None)}))
        work_honestly(self, rng_of(354), CHAIN, hall, 60, 8, 0.2)
        hall.ask(0)
        before = state_of(hall)
        for part in (hall.hands(), hall.slow(), hall.marks()):
            part.clear()
        self.assertEqual(state_of(hall), before)

    def test_arguments_are_copied(self):
        keeping = (2, {"a": (0, 1), "b": (2, 2), "c": (0, 1)})
        hall = Hall(CHAIN, keeping)
        keeping[1]["a"] = (None, None)
        keeping[1]["z"] = 3
        self.assertIs(hall == Hall(CHAIN, CHAIN_KEEPING), True)
        hall.ask(0)
        hall.done(0, 4)
        self.assertEqual(hall.cells(), (4, None, None))


class Twins(unittest.TestCase):
    def test_they_go_on_by_themselves(self):
        rng = rng_of(355)
        for _ in range(60):
            loop = random_live_loop(rng, 4, 3, 5)
            keeping = rng.choice(right_keepings(rng, Slow(loop)))
            hall = Hall(loop, keeping)
            work_honestly(self, rng, loop, hall, 40)
            other = hall.twin()
            self.assertIs(hall == other, True)
            self.assertIs(hall != other, False)
            self.assertTrue(same(state_of(hall), state_of(other)))
            before = state_of(hall)
            work_honestly(self, rng, loop, other, 40)
            self.assertEqual(state_of(hall), before)
            self.assertIs(hall == other, hall.lines() == other.lines())
            # What one does the other one does, too.
            third = hall.twin()
            seed = rng.random()
            work_honestly(self, rng_of(seed), loop, hall, 40)
            work_honestly(self, rng_of(seed), loop, third, 40)
            self.assertTrue(same(state_of(hall), state_of(third)))

    def test_twins_keep_what_falls_have_told(self):
        hall = Hall(CHAIN, CHAIN_KEEPING)
        hall.ask(0)
        hall.fall(0, 4)
        other = hall.twin()
        other.ask(1)
        self.assertRaises(Unlike, other.done, 1, 5)
        hall.ask(2)
        hall.done(2, 4)
        self.assertEqual(other.hands(), {1: ("a", 0)})
        other.done(1, 4)

    def test_equal_and_unequal(self):
        hall = Hall(CHAIN, CHAIN_KEEPING)
        self.assertIs(hall == Hall(CHAIN, (2, {"c": (0, 1), "b": (2, 2), "a": (0, 1)})), True)
        # ALIKE is not equal, nor is the same with twice the period.
        self.assertIs(hall == Hall(CHAIN, longer(CHAIN_KEEPING, 2)), False)
        self.assertIs(hall == Hall(CHAIN, (2, {"a": (2, 1), "b": (0, 0), "c": (2, 1)})), False)
        other = ((("a", 0, ("round",)),) + CHAIN[0][1:], CHAIN[1])
        self.assertIs(hall == Hall(other, CHAIN_KEEPING), False)
        asked = Hall(CHAIN, CHAIN_KEEPING)
        asked.ask(0)
        self.assertIs(hall == asked, False)
        hall.ask(0)
        self.assertIs(hall == asked, True)
        # The same state, but another way there.
        hall.fall(0, None)
        asked.fall(0, None)
        hall.ask(1)
        asked.ask(2)
        self.assertIs(hall == asked, False)

    def test_nothing_else_is_equal(self):
        hall = Hall(CHAIN, CHAIN_KEEPING)
        for thing in ANY + [CHAIN, (CHAIN, CHAIN_KEEPING, ()), [hall], (hall,), Hall]:
            self.assertIs(hall == thing, False)
            self.assertIs(thing == hall, False)
            self.assertIs(hall != thing, True)


class Wrongs(unittest.TestCase):
    def check_wrong(self, place, call, *arguments):
        with self.assertRaises(Wrong) as caught:
            call(*arguments)
        self.assertEqual(caught.exception.place, place)

    def test_halls(self):
        for thing in ANY + mangled(PAIR):
            if not is_live_loop(thing):
                self.check_wrong(0, Hall, thing, (1, {"a": (None,)}))
                self.check_wrong(0, Hall, thing, thing)
        self.check_wrong(0, Hall, (PAIR[0], (("a", "b", 0),)), (1, {"a": (None,)}))
        for thing in ANY + mangled((2, {"a": (0, 1)})) + [(1, {"a": (0,)}), (2, {"a": (0, 0)}), (2, {"a": (1, 2)})]:
            if is_keeping(OWN, thing) and is_right(OWN, thing, True):
                self.assertEqual(Hall(OWN, thing).cells().count(None), len(Hall(OWN, thing).cells()))
            else:
                self.check_wrong(1, Hall, OWN, thing)

    def test_right_without_cuts_alone(self):
        self.assertIs(is_right(OWN, (1, {"a": (0,)}), False), True)
        self.check_wrong(1, Hall, OWN, (1, {"a": (0,)}))

    def test_workers_and_values(self):
        def is_worker(thing):
            return type(thing) is int and 0 <= thing < 8

        def is_value(thing):
            return type(thing) is int and 0 <= thing < 10000

        hall = Hall(CHAIN, CHAIN_KEEPING)
        hall.ask(0)
        hall.fall(0, 5)
        hall.ask(1)
        before = state_of(hall)
        for thing in ANY + [7, 8, -1, 1.0, "1", 10 ** 39, hall]:
            if not is_worker(thing):
                self.check_wrong(0, hall.ask, thing)
                for value in (5, 6, None, "x", True, thing):
                    self.check_wrong(0, hall.done, thing, value)
                    self.check_wrong(0, hall.fall, thing, value)
            if not is_value(thing):
                # Ahead of Nothing() of 3, and of Unlike(..) of 1.
                for worker in (1, 3):
                    self.check_wrong(1, hall.done, worker, thing)
                    if thing is not None:
                        self.check_wrong(1, hall.fall, worker, thing)
        self.assertEqual(state_of(hall), before)

    def test_far_waits(self):
        # Beyond the bounds, but a LOOP: it has rounds enough ahead of that.
        far = loop_of(("a", [("a", 10 ** 39)]), ("b", []), ("b", "a", 10 ** 30))
        hall = Hall(far, (1, {"a": (None,)}))
        self.assertEqual([hall.ask(0)[0], hall.ask(1)[0], hall.ask(2)[0]], [("a", 0), ("b", 0), ("a", 1)])

    def test_belt(self):
        hall = Hall(BELT, (1, {"a": (None,), "b": (None,)}))
        work_honestly(self, rng_of(356), BELT, hall, 600, 8, 0.2)
        self.assertGreater(hall.marks()["c"][0], 20)


if __name__ == "__main__":
    unittest.main()
