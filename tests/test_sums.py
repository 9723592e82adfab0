"""[17]: TABLES, and the SUMS of PATHS."""

import itertools
import unittest

from support import ALONE, ANY, BELT, PAIR, check_truth, check_unchanged, loop_of, mangled, random_live_loop, rng_of
from support import slow_arcs, slow_sums
from unwaited.sums import has, in_both, is_reach, is_table, moved, next_in, reach, sum_table, sums_below

GREAT = 10 ** 40 - 1
MOST = 80


def had(table, most=MOST):
    """The integers below most that a TABLE HAS, as [17] says it."""
    numbers, begin, modulus, remainders = table
    return [one for one in range(most) if one in numbers or one >= begin and one % modulus in remainders]


def all_tables(begin, modulus):
    """All small tuples that are like TABLES, the least ones and others."""
    for early in range(begin + 1):
        for many in range(1, modulus + 1):
            for numbers in itertools.chain(*(itertools.combinations(range(early), k) for k in range(early + 1))):
                for rest in itertools.chain(*(itertools.combinations(range(many), k) for k in range(many + 1))):
                    yield (numbers, early, many, rest)


def least_tables(begin, modulus):
    """The dict from what is had to the least of all such tuples: the least modulus, then the least begin."""
    least = {}
    for table in all_tables(begin, modulus):
        key = tuple(had(table))
        if key not in least or (table[2], table[1]) < (least[key][2], least[key][1]):
            least[key] = table
    return least


class Tables(unittest.TestCase):
    @classmethod
    def setUpClass(cls):
        cls.least = least_tables(4, 6)
        cls.some = rng_of(41).sample(sorted(cls.least.values()), 300)
        cls.some += [((), 0, 1, ()), ((), 0, 1, (0,)), ((0, 3), 4, 1, ()), ((), 3, 1, (0,)), ((3,), 4, 6, (0, 1, 4))]

    def test_least(self):
        right = set(self.least.values())
        many = 0
        for table in all_tables(4, 6):
            many += 1
            check_truth(self, is_table(table), table in right, table)
        self.assertGreater(many, 3000)

    def test_any_value(self):
        for thing in ANY:
            if thing != ((), 0, 1, ()) or thing[2] is True:
                self.assertIs(is_table(thing), False, thing)
        for good in [((0, 3), 5, 6, (1, 4, 5)), ((), 0, 2, (1,)), ((2,), 3, 1, ()), ((), 7, 1, (0,))]:
            self.assertIs(is_table(good), True, good)
            for thing in mangled(good):
                kinds = type(thing) is tuple and [type(part) for part in thing] == [tuple, int, int, tuple] \
                    and all(type(part) is int for part in thing[0] + thing[3])
                if not kinds:
                    self.assertIs(is_table(thing), False, thing)
                    continue
                numbers, begin, modulus, remainders = thing
                fits = begin >= 0 and modulus > 0 and list(numbers) == sorted(set(numbers) & set(range(min(begin, 99)))) \
                    and list(remainders) == sorted(set(remainders) & set(range(min(modulus, 99))))
                if not fits:
                    self.assertIs(is_table(thing), False, thing)
                elif begin <= 10 and modulus <= 10:
                    least = [other for other in self.least.values() if had(other) == had(thing)]
                    if thing in least or least and begin <= 4 and modulus <= 6:
                        check_truth(self, is_table(thing), thing in least, thing)

    def test_great_numbers(self):
        for thing, right in [(((), GREAT, 1, ()), False), (((GREAT - 1,), GREAT, 1, ()), True),
                             (((GREAT - 1,), GREAT, 1, (0,)), False), (((GREAT - 2,), GREAT, 1, (0,)), True),
                             (((), 0, GREAT, (0,)), True), (((), 0, 10 ** 39, (0, 5 * 10 ** 38)), False),
                             (((), 0, 10 ** 39, (0, 5 * 10 ** 38 + 1)), True), (((), 0, GREAT, ()), False),
                             (((), GREAT - 1, GREAT, (0,)), False), (((0,), GREAT, GREAT, (0,)), False),
                             (((1,), GREAT + 1, GREAT, (0,)), True), (((), 1, GREAT, (0,)), True),
                             (((), 0, 6 * 10 ** 38, tuple(k * 10 ** 38 for k in range(6))), False),
                             (((), 0, 6 * 10 ** 38, tuple(k * 10 ** 38 for k in (0, 2, 4))), False),
                             (((), 0, 6 * 10 ** 38, tuple(k * 10 ** 38 for k in (0, 3, 4))), True),
                             (((), 0, 3000, tuple(range(0, 3000, 2))), False), (((), 0, 2500, tuple(range(2499))), True)]:
            self.assertIs(is_table(thing), right, thing[1:3])

    def test_truths_are_no_integers(self):
        for thing in [((False,), 2, 1, (0,)), ((), False, 1, (0,)), ((), 0, True, (0,)), ((), 0, 1, (False,))]:
            self.assertIs(is_table(thing), False)
        self.assertIs(is_table(((0,), 2, 1, (0,))), True)

    def test_has(self):
        for table in self.some:
            numbers = had(table)
            for number in range(-3, MOST):
                check_truth(self, has(table, number), number in numbers, (table, number))
            for number in (10 ** 5, 10 ** 5 + 1, GREAT):
                check_truth(self, has(table, number), number % table[2] in table[3], (table, number))

    def test_next_in(self):
        for table in self.some:
            numbers = had(table, 60)
            for number in (*range(-3, 40), -GREAT):
                meant = min((one for one in numbers if one >= number), default=None)
                self.assertEqual(check_unchanged(self, next_in, table, number), meant)
        self.assertEqual(next_in(((1,), 3, 5, (2,)), 10 ** 30), 10 ** 30 + 2)
        self.assertEqual(next_in(((1,), 3, 5, (2, 4)), 10 ** 30 + 3), 10 ** 30 + 4)
        self.assertEqual(next_in(((1,), 3, 5, (2,)), 10 ** 30 + 3), 10 ** 30 + 7)
        self.assertIsNone(next_in(((1,), 2, 1, ()), 2))

    def test_moved(self):
        for table in self.some:
            for by in (0, 1, 2, 3, 5, 12, 13):
                told = check_unchanged(self, moved, table, by)
                self.assertIs(is_table(told), True, (table, by))
                self.assertEqual(had(told), [one + by for one in had(table) if one + by < MOST], (table, by))
        self.assertEqual(moved(((), 0, 3, (0,)), 2), ((), 0, 3, (2,)))
        self.assertEqual(moved(((), 0, 3, (0,)), 4), ((), 2, 3, (1,)))
        self.assertEqual(moved(((), 0, 1, ()), 10 ** 30), ((), 0, 1, ()))
        self.assertEqual(moved(((), 0, 1, (0,)), 10 ** 30), ((), 10 ** 30, 1, (0,)))

    def test_in_both(self):
        rng = rng_of(42)
        for _ in range(1500):
            one, other = rng.choice(self.some), rng.choice(self.some)
            told = check_unchanged(self, in_both, one, other)
            self.assertIs(is_table(told), True, (one, other))
            self.assertEqual(had(told), [number for number in had(one) if number in had(other)], (one, other))
            self.assertEqual(in_both(other, one), told)
        for table in self.some:
            self.assertEqual(in_both(table, table), table)
            self.assertEqual(in_both(table, ((), 0, 1, (0,))), table)
            self.assertEqual(in_both(table, ((), 0, 1, ())), ((), 0, 1, ()))

    def test_great_moduli(self):
        self.assertEqual(in_both(((), 0, 1000, (7,)), ((), 7, 999, (5,))), ((), 0, 999000, (997007,)))
        table = in_both(((), 0, 1000, (7, 8)), ((), 0, 999, (7,)))
        self.assertIs(is_table(table), True)
        self.assertEqual(table[2], 999000)
        for number in table[3]:
            self.assertIn(number % 1000, (7, 8))
            self.assertEqual(number % 999, 7)
        self.assertEqual(len(table[3]), 2)
        evens = in_both(((), 0, 998, tuple(range(0, 998, 3))), ((), 0, 2, (0,)))
        self.assertEqual(evens, ((), 0, 998, tuple(range(0, 998, 6))))


class Sums(unittest.TestCase):
    def test_by_chance(self):
        rng = rng_of(43)
        for _ in range(150):
            loop = random_live_loop(rng, 5, rng.choice((1, 3, 5)), 4)
            sums = {name: slow_sums(loop, name, MOST) for name, _, _ in loop[0]}
            for one, _, _ in loop[0]:
                other = rng.choice(loop[0])[0]
                meant = [number for number in range(MOST) if (other, number) in sums[one]]
                table = check_unchanged(self, sum_table, loop, one, other)
                self.assertIs(is_table(table), True, loop)
                self.assertEqual(had(table), meant, (loop, one, other))
                for most in (0, 1, 5, 33):
                    told = check_unchanged(self, sums_below, loop, one, other, most)
                    self.assertEqual(told, tuple(number for number in meant if number < most))
                most = rng.choice((0, 1, 7, 20))
                told = check_unchanged(self, reach, loop, one, most)
                self.assertEqual(list(told), [name for name, _, _ in loop[0]])
                self.assertEqual(told, {name: tuple(sorted(number for later, number in sums[one]
                                                           if later == name and number <= most)) for name in told})

    def test_no_path(self):
        self.assertEqual(sum_table(PAIR, "b", "a"), ((), 0, 1, ()))
        self.assertEqual(sum_table(PAIR, "b", "b"), ((0,), 1, 1, ()))
        self.assertEqual(sum_table(ALONE, "a", "a"), ((0,), 1, 1, ()))
        self.assertEqual(sums_below(PAIR, "b", "a", 100), ())
        self.assertEqual(sums_below(PAIR, "b", "b", 100), (0,))
        self.assertEqual(reach(PAIR, "b", 9), {"a": (), "b": (0,)})

    def test_common_divisor(self):
        loop = loop_of(("a", [("a", 4), ("a", 6)]), ("b", [("a", 3)]))
        self.assertEqual(sum_table(loop, "a", "a"), ((0,), 3, 2, (0,)))
        self.assertEqual(sum_table(loop, "a", "b"), ((3,), 6, 2, (1,)))
        loop = loop_of(("a", [("b", 2)]), ("b", [("a", 4)]), ("c", [("a", 0), ("b", 0)]))
        self.assertEqual(sum_table(loop, "a", "a"), ((), 0, 6, (0,)))
        self.assertEqual(sum_table(loop, "a", "b"), ((), 0, 6, (4,)))
        self.assertEqual(sum_table(loop, "a", "c"), ((), 0, 6, (0, 4)))
        self.assertEqual(sum_table(loop, "b", "c"), ((), 0, 6, (0, 2)))

    def test_unlike_moduli_side_by_side(self):
        loop = loop_of(("a", []), ("b", [("a", 0), ("b", 8)]), ("c", [("a", 1), ("c", 7)]), ("d", [("a", 2), ("d", 5)]),
                       ("e", [("b", 0), ("c", 0), ("d", 0)]))
        table = sum_table(loop, "a", "e")
        self.assertEqual(table[1:3], (0, 280))
        self.assertEqual(table[3], tuple(one for one in range(280) if one % 8 == 0 or one % 7 == 1 or one % 5 == 2))
        self.assertIs(is_table(table), True)

    def test_a_great_modulus(self):
        waits = [("b", "b", 8), ("c", "d", 8), ("d", "c", 5), ("e", "f", 8), ("f", "e", 7), ("g", "h", 8), ("h", "g", 3)]
        waits += [(name, "a", 0) for name in "bceg"] + [("i", name, 0) for name in "bceg"]
        table = sum_table(loop_of(*((name, []) for name in "abcdefghi"), *waits), "a", "i")
        self.assertEqual(table[:3], ((), 0, 8 * 13 * 15 * 11))
        self.assertEqual(table[3], tuple(one for one in range(8 * 13 * 15 * 11)
                                         if one % 8 == 0 or one % 13 == 0 or one % 15 == 0 or one % 11 == 0))
        self.assertIs(is_table(table), True)
        self.assertEqual(in_both(table, ((), 0, 2, (1,)))[2], 2 * 13 * 15 * 11)

    def test_far_begin(self):
        loop = loop_of(*((name, [("abcdefghij"[at - 1], 8)]) for at, name in enumerate("abcdefghij")), ("a", "i", 8))
        table = sum_table(loop, "a", "a")
        self.assertEqual(table[2], 8)
        self.assertEqual(had(table, 1500), sorted({72 * x + 80 * y for x in range(21) for y in range(20)
                                                   if 72 * x + 80 * y < 1500}))

    def test_far_sums(self):
        loop = loop_of(("a", [("a", 7), ("a", 8)]), ("b", [("a", 3)]))
        self.assertEqual(sums_below(loop, "a", "b", 10000)[-3:], (9997, 9998, 9999))
        self.assertEqual(len(reach(BELT, "a", 2000)["b"]), 2000)


class Reach(unittest.TestCase):
    def test_any_value(self):
        loop = loop_of(("a", [("a", 2), ("c", 1)]), ("b", [("a", 0), ("b", 3)]), ("c", [("b", 0)]))
        for name, most in [("a", 4), ("b", 0), ("c", 6), ("b", 1)]:
            right = reach(loop, name, most)
            turned = {other: right[other] for other in sorted(right, reverse=True)}
            for thing in [right, turned, *mangled(right), *ANY, reach(loop, "a", most + 1), reach(loop, "a", 0)]:
                meant = type(thing) is dict and thing == right \
                    and all(type(row) is tuple and all(type(one) is int for one in row) for row in thing.values())
                check_truth(self, is_reach(loop, name, most, thing), meant, thing)

    def test_closed_but_not_founded(self):
        self.assertIs(is_reach(PAIR, "b", 2, {"a": (0, 1, 2), "b": (0, 1, 2)}), False)
        self.assertIs(is_reach(PAIR, "b", 2, {"a": (), "b": (0,)}), True)
        self.assertIs(is_reach(PAIR, "a", 2, {"a": (0, 1, 2), "b": (0, 1, 2)}), True)
        self.assertIs(is_reach(PAIR, "a", 2, {"a": (1, 2), "b": (1, 2)}), False)
        self.assertIs(is_reach(PAIR, "a", 2, {"a": (0, 1, 2, 3), "b": (0, 1, 2)}), False)

    def test_great(self):
        right = reach(BELT, "c", 2000)
        self.assertIs(is_reach(BELT, "c", 2000, right), True)
        right["b"] = right["b"][:-1]
        self.assertIs(is_reach(BELT, "c", 2000, right), False)

    def test_by_chance(self):
        rng = rng_of(44)
        for _ in range(60):
            loop = random_live_loop(rng, 4, 3, 3)
            name = rng.choice(loop[0])[0]
            right = reach(loop, name, 5)
            self.assertIs(is_reach(loop, name, 5, right), True)
            for other in right:
                for number in range(-1, 7):
                    row = tuple(sorted(set(right[other]) ^ {number}))
                    self.assertIs(is_reach(loop, name, 5, {**right, other: row}), False, (loop, other, number))

    def test_what_is_returned_is_new(self):
        told = reach(BELT, "a", 3)
        told["a"] = ()
        self.assertNotEqual(reach(BELT, "a", 3), told)
        self.assertTrue(all(len(arc) == 3 for arc in slow_arcs(BELT)))


if __name__ == "__main__":
    unittest.main()
