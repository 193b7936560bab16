"""Point 9: free numbers, the mark, what is picked, taken, given back and rests."""

import random
import unittest

from lentgate.pool import Pool

# Pools of one number, of several and of 200, at both ends and between.
POOLS = [(1, 1), (9999, 9999), (500, 500), (1, 4), (40, 44), (9996, 9999), (1, 200), (9800, 9999), (333, 532)]


def free_ones(pool, moment):
    return [number for number in range(1, 10000) if pool.is_free(number, moment)]


class Fresh(unittest.TestCase):
    def test_all_numbers_of_the_pool_are_free_and_no_other(self):
        for low, high in POOLS:
            pool = Pool(low, high)
            self.assertEqual(free_ones(pool, 0), list(range(low, high + 1)))
            self.assertEqual(pool.many_free(0), high - low + 1)
            self.assertEqual(pool.resting(0), [])
            self.assertEqual(pool.picked("next", 1, 0), low)

    def test_is_free_beyond_the_pool(self):
        pool = Pool(40, 44)
        for number in (1, 39, 45, 9999):
            self.assertIs(pool.is_free(number, 0), False)
        for number in (40, 44):
            self.assertIs(pool.is_free(number, 0), True)

    def test_picking_takes_nothing(self):
        pool = Pool(40, 44)
        for pick in ("next", "keep"):
            self.assertEqual([pool.picked(pick, 7, 0) for _ in range(3)], [40, 40, 40])
        self.assertEqual(pool.many_free(0), 5)


class Next(unittest.TestCase):
    def test_one_behind_the_other_till_none_is_free(self):
        for low, high in POOLS:
            pool = Pool(low, high)
            for number in range(low, high + 1):
                self.assertEqual(pool.picked("next", high, 0), number)
                self.assertIsNone(pool.take(number))
                self.assertFalse(pool.is_free(number, 0))
                self.assertEqual(pool.many_free(0), high - number)
            for pick in ("next", "keep"):
                self.assertIsNone(pool.picked(pick, low, 0))
            self.assertEqual(pool.many_free(0), 0)

    def test_the_mark_is_behind_the_taken_one_whichever_that_is(self):
        pool = Pool(40, 44)
        pool.take(42)
        self.assertEqual(pool.picked("next", 1, 0), 43)
        pool.take(41)
        self.assertEqual(pool.picked("next", 1, 0), 43)
        pool.take(44)
        self.assertEqual(pool.picked("next", 1, 0), 40)

    def test_behind_high_on_from_low(self):
        pool = Pool(40, 44)
        pool.take(43)
        pool.take(40)
        pool.take(44)
        self.assertEqual(pool.picked("next", 1, 0), 41)
        pool.take(42)
        self.assertEqual(pool.picked("next", 1, 0), 41)
        pool.take(41)
        pool.give(40, 0)
        self.assertEqual(pool.picked("next", 1, 0), 40)

    def test_giving_back_leaves_the_mark(self):
        pool = Pool(40, 44)
        pool.take(40)
        pool.give(40, 0)
        self.assertEqual(pool.picked("next", 1, 0), 41)
        pool.take(41)
        pool.give(41, 5)
        self.assertEqual(pool.picked("next", 1, 5), 42)

    def test_a_pool_of_one_number_comes_again(self):
        for only in (1, 500, 9999):
            pool = Pool(only, only)
            for moment in range(0, 30, 3):
                self.assertEqual(pool.picked("next", 7, moment), only)
                pool.take(only)
                pool.give(only, moment + 3)
                self.assertIsNone(pool.picked("next", 7, moment + 2))


class Keep(unittest.TestCase):
    def test_a_door_that_is_free_is_picked(self):
        pool = Pool(40, 44)
        for door in (40, 42, 44):
            self.assertEqual(pool.picked("keep", door, 0), door)
            self.assertEqual(pool.picked("next", door, 0), 40)

    def test_a_door_that_is_taken(self):
        pool = Pool(40, 44)
        pool.take(42)
        self.assertEqual(pool.picked("keep", 42, 0), 43)

    def test_a_door_that_rests(self):
        pool = Pool(40, 44)
        pool.take(40)
        pool.take(44)
        pool.give(44, 9)
        self.assertEqual(pool.picked("keep", 44, 8), 41)
        self.assertEqual(pool.picked("keep", 44, 9), 44)

    def test_a_door_beyond_the_pool(self):
        pool = Pool(40, 44)
        pool.take(40)
        for door in (1, 39, 45, 9999):
            self.assertEqual(pool.picked("keep", door, 0), 41)

    def test_the_kept_door_moves_the_mark(self):
        pool = Pool(40, 44)
        pool.take(pool.picked("keep", 43, 0))
        self.assertEqual(pool.picked("next", 1, 0), 44)
        pool.take(pool.picked("keep", 44, 0))
        self.assertEqual(pool.picked("next", 1, 0), 40)


class Rest(unittest.TestCase):
    def test_it_rests_ahead_of_the_moment_and_is_free_from_it_on(self):
        pool = Pool(40, 44)
        pool.take(42)
        self.assertIsNone(pool.give(42, 10))
        self.assertEqual(pool.resting(9), [(42, 10)])
        self.assertEqual((pool.is_free(42, 9), pool.many_free(9)), (False, 4))
        self.assertEqual(pool.resting(10), [])
        self.assertEqual((pool.is_free(42, 10), pool.many_free(10)), (True, 5))
        self.assertEqual((pool.is_free(42, 11), pool.many_free(11)), (True, 5))

    def test_a_moment_that_has_come_already(self):
        for until in (0, 3, 6, 7):
            pool = Pool(40, 40)
            pool.take(40)
            self.assertEqual((pool.resting(7), pool.many_free(7)), ([], 0))
            pool.give(40, until)
            self.assertEqual((pool.resting(7), pool.many_free(7), pool.picked("next", 1, 7)), ([], 1, 40))

    def test_they_are_told_rising(self):
        pool = Pool(40, 44)
        for number in (40, 41, 42, 43, 44):
            pool.take(number)
        for number, until in ((43, 5), (40, 9), (44, 2), (41, 5)):
            pool.give(number, until)
        self.assertEqual(pool.resting(1), [(40, 9), (41, 5), (43, 5), (44, 2)])
        self.assertEqual(pool.resting(2), [(40, 9), (41, 5), (43, 5)])
        self.assertEqual(pool.resting(5), [(40, 9)])
        self.assertEqual(pool.resting(9), [])

    def test_taken_again_it_neither_rests_nor_is_free(self):
        pool = Pool(40, 41)
        pool.take(40)
        pool.give(40, 5)
        pool.take(40)
        self.assertEqual((pool.resting(5), pool.is_free(40, 5), pool.many_free(5)), ([], False, 1))
        pool.give(40, 6)
        self.assertEqual((pool.resting(5), pool.is_free(40, 5)), ([(40, 6)], False))

    def test_a_told_list_is_the_askers_own(self):
        pool = Pool(40, 44)
        pool.take(42)
        pool.give(42, 10)
        first = pool.resting(0)
        first.append((43, 11))
        self.assertEqual(pool.resting(0), [(42, 10)])
        first.clear()
        self.assertEqual(pool.resting(0), [(42, 10)])
        kept = pool.resting(0)
        pool.take(41)
        pool.give(41, 12)
        self.assertEqual(kept, [(42, 10)])

    def test_two_pools_have_nothing_to_do_with_one_another(self):
        one, other = Pool(40, 41), Pool(40, 41)
        one.take(40)
        self.assertEqual((one.many_free(0), other.many_free(0), other.picked("next", 1, 0)), (1, 2, 40))
        one.give(40, 5)
        self.assertEqual((one.resting(0), other.resting(0)), ([(40, 5)], []))


class Rows(unittest.TestCase):
    def test_seeded_rows_of_steps_against_the_words_of_point_9(self):
        source = random.Random(9)
        for low, high in POOLS:
            pool, taken, ends, mark, moment = Pool(low, high), set(), {}, low, 0
            for _ in range(200):
                moment += source.choice([0, 0, 1, 2])
                free = [n for n in range(low, high + 1) if n not in taken and ends.get(n, 0) <= moment]
                ahead = [n for n in free if n >= mark] or free
                door = source.randrange(max(1, low - 2), min(9999, high + 2) + 1)
                by_next = ahead[0] if ahead else None
                self.assertEqual(pool.picked("next", door, moment), by_next)
                by_keep = door if door in free else by_next
                self.assertEqual(pool.picked("keep", door, moment), by_keep)
                rests = [(n, ends[n]) for n in range(low, high + 1) if n not in taken and ends.get(n, 0) > moment]
                self.assertEqual(pool.resting(moment), rests)
                self.assertEqual(pool.many_free(moment), len(free))
                if free and source.random() < 0.6:
                    number = source.choice([by_next, by_keep, source.choice(free)])
                    pool.take(number)
                    taken.add(number)
                    mark = low if number == high else number + 1
                elif taken:
                    number = source.choice(sorted(taken))
                    ends[number] = moment + source.choice([-1, 0, 1, 4])
                    pool.give(number, ends[number])
                    taken.remove(number)


if __name__ == "__main__":
    unittest.main()
