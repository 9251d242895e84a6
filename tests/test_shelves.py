import itertools
import unittest

from gapshelf.shelves import done, held, is_sound, is_straight, mended, rows_of

GREAT = 10 ** 59

STRAIGHT = (
    [],
    [()],
    [(), (), ()],
    [(3, 7)],
    [(), (3, 7), ()],
    [(1, 5), (2, 5), (3, 5)],
    [(1, 5), (), (), (2, 4), (), (9, 3)],
    [(-2, 1), (), (-1, 1), (0, 0), (1, -1)],
    [(-GREAT, GREAT), (), (0, -GREAT), (GREAT, 0)],
    [(1, 9), (2, 1), (), (3, -4), ()],
)

# Each with the same shelf mended.
TWICE = (
    ([(3, 7), (3, 7)], [(3, 7), ()]),
    ([(3, 7), (), (), (3, 7)], [(3, 7), (), (), ()]),
    ([(), (3, 7), (), (3, 7), ()], [(), (3, 7), (), (), ()]),
    ([(1, 1), (1, 1), (2, 2), (), (3, 3)], [(1, 1), (), (2, 2), (), (3, 3)]),
    ([(1, 1), (), (1, 1), (2, 2), (3, 3)], [(1, 1), (), (), (2, 2), (3, 3)]),
    ([(1, 1), (2, 2), (2, 2), (3, 3)], [(1, 1), (2, 2), (), (3, 3)]),
    ([(1, 1), (2, 2), (), (2, 2), (), (3, 3)], [(1, 1), (2, 2), (), (), (), (3, 3)]),
    ([(1, 1), (), (2, 2), (3, 3), (3, 3)], [(1, 1), (), (2, 2), (3, 3), ()]),
    ([(1, 1), (3, 3), (), (), (3, 3)], [(1, 1), (3, 3), (), (), ()]),
    ([(-5, -GREAT), (), (-5, -GREAT), (GREAT, 0)], [(-5, -GREAT), (), (), (GREAT, 0)]),
    ([(0, 0), (0, 0), ()], [(0, 0), (), ()]),
    ([(-GREAT, 1), (GREAT, -1), (), (GREAT, -1)], [(-GREAT, 1), (GREAT, -1), (), ()]),
)

UNSOUND = (
    [(2, 1), (1, 1)],
    [(2, 1), (), (1, 1)],
    [(1, 1), (3, 1), (), (2, 1), (4, 1)],
    [(-1, 0), (-2, 0)],
    [(GREAT, 0), (-GREAT, 0)],
    # a thing twice, with another one between
    [(1, 1), (2, 2), (1, 1)],
    [(2, 2), (), (1, 1), (), (2, 2)],
    [(1, 1), (1, 2), (1, 1)],
    # a key twice, with another worth
    [(1, 1), (1, 2)],
    [(1, 2), (), (1, 1)],
    [(0, 5), (1, GREAT), (1, -GREAT), (2, 5)],
    [(1, 1), (1, 1), (1, 2)],
    [(1, 2), (1, 1), (1, 1)],
    # a thing thrice
    [(1, 1), (1, 1), (1, 1)],
    [(1, 1), (), (1, 1), (), (1, 1), (2, 2)],
    # two things twice
    [(1, 1), (1, 1), (2, 2), (2, 2)],
    [(1, 1), (), (1, 1), (), (2, 2), (3, 3), (), (3, 3)],
    # one thing twice beside a key that falls
    [(1, 1), (1, 1), (0, 0)],
    [(2, 2), (1, 1), (1, 1)],
    [(3, 3), (), (3, 3), (5, 5), (4, 4)],
    [(5, 5), (4, 4), (), (6, 6), (6, 6)],
)


def told_straight(shelf):
    keys = [thing[0] for thing in shelf if thing]
    return keys == sorted(set(keys))


def told_sound(shelf):
    """The words of the promise, pair by pair of places."""
    if told_straight(shelf):
        return True
    for near, far in itertools.combinations(range(len(shelf)), 2):
        between = shelf[near + 1:far]
        if shelf[near] and shelf[near] == shelf[far] and not any(between):
            if told_straight(shelf[:far] + shelf[far + 1:]):
                return True
    return False


class StraightAndSoundTest(unittest.TestCase):
    def assert_told(self, shelf, straight, sound):
        with self.subTest(shelf=shelf):
            self.assertIs(is_straight(list(shelf)), straight)
            self.assertIs(is_sound(list(shelf)), sound)

    def test_straight_ones(self):
        for shelf in STRAIGHT:
            self.assert_told(shelf, True, True)

    def test_a_thing_twice(self):
        for shelf, behind in TWICE:
            self.assert_told(shelf, False, True)
            self.assert_told(behind, True, True)

    def test_neither(self):
        for shelf in UNSOUND:
            self.assert_told(shelf, False, False)

    def test_all_small_shelves(self):
        choices = ((), (1, 1), (1, 2), (2, 1), (3, 1))
        for many in range(6):
            for places in itertools.product(choices, repeat=many):
                shelf = list(places)
                self.assertIs(is_straight(shelf), told_straight(shelf), shelf)
                self.assertIs(is_sound(shelf), told_sound(shelf), shelf)


class RowsAndMendedTest(unittest.TestCase):
    def test_straight_ones_are_mended_as_they_are(self):
        for shelf in STRAIGHT:
            with self.subTest(shelf=shelf):
                self.assertEqual(mended(list(shelf)), shelf)
                self.assertIsInstance(mended(list(shelf)), list)

    def test_the_second_one_is_cleared(self):
        for shelf, behind in TWICE:
            with self.subTest(shelf=shelf):
                self.assertEqual(mended(list(shelf)), behind)

    def test_rows_of_straight_ones(self):
        for shelf in STRAIGHT:
            with self.subTest(shelf=shelf):
                self.assertEqual(rows_of(list(shelf)), [thing for thing in shelf if thing])
                self.assertIsInstance(rows_of(list(shelf)), list)

    def test_rows_tell_a_thing_that_lies_twice_once(self):
        for shelf, behind in TWICE:
            with self.subTest(shelf=shelf):
                self.assertEqual(rows_of(list(shelf)), [thing for thing in behind if thing])

    def test_rows_written_out(self):
        self.assertEqual(rows_of([]), [])
        self.assertEqual(rows_of([(), ()]), [])
        self.assertEqual(rows_of([(), (1, 5), (), (2, 4), ()]), [(1, 5), (2, 4)])
        self.assertEqual(rows_of([(1, 5), (), (1, 5), (2, 4), ()]), [(1, 5), (2, 4)])
        self.assertEqual(rows_of([(1, 5), (2, 4), (), (2, 4), (3, 4)]), [(1, 5), (2, 4), (3, 4)])
        self.assertEqual(rows_of([(1, 5), (), (2, 4), (2, 4)]), [(1, 5), (2, 4)])


class HeldTest(unittest.TestCase):
    SHELF = [(), (1, 5), (2, 5), (), (), (7, -1), (), (9, 0)]

    def test_all_places(self):
        self.assertEqual(held(list(self.SHELF), 0, 8), 4)
        self.assertEqual(held([], 0, 0), 0)
        self.assertEqual(held([(), ()], 0, 2), 0)
        self.assertEqual(held([(1, 1), (2, 2)], 0, 2), 2)

    def test_some_places(self):
        self.assertEqual(held(list(self.SHELF), 0, 1), 0)
        self.assertEqual(held(list(self.SHELF), 0, 2), 1)
        self.assertEqual(held(list(self.SHELF), 1, 3), 2)
        self.assertEqual(held(list(self.SHELF), 2, 5), 1)
        self.assertEqual(held(list(self.SHELF), 2, 6), 2)
        self.assertEqual(held(list(self.SHELF), 3, 5), 0)
        self.assertEqual(held(list(self.SHELF), 7, 8), 1)

    def test_every_range_of_places(self):
        for first in range(9):
            for behind in range(first, 9):
                with self.subTest(first=first, behind=behind):
                    things = [thing for thing in self.SHELF[first:behind] if thing]
                    self.assertEqual(held(list(self.SHELF), first, behind), len(things))

    def test_no_places(self):
        for place in range(9):
            self.assertEqual(held(list(self.SHELF), place, place), 0)

    def test_somewhat_beyond_the_shelf(self):
        self.assertEqual(held(list(self.SHELF), -1, 9), 4)
        self.assertEqual(held(list(self.SHELF), -1, 2), 1)

    def test_a_thing_that_lies_twice_is_counted_at_each_place(self):
        self.assertEqual(held([(1, 5), (), (1, 5), (2, 5)], 0, 4), 3)


class DoneTest(unittest.TestCase):
    def test_no_writes(self):
        self.assertEqual(done([(), (1, 5)], []), [(), (1, 5)])
        self.assertEqual(done([], []), [])

    def test_one_write(self):
        self.assertEqual(done([(), (1, 5), ()], [(0, (0, 3))]), [(0, 3), (1, 5), ()])
        self.assertEqual(done([(), (1, 5), ()], [(2, (2, -3))]), [(), (1, 5), (2, -3)])
        self.assertEqual(done([(), (1, 5), ()], [(1, (1, GREAT))]), [(), (1, GREAT), ()])

    def test_clearing(self):
        self.assertEqual(done([(), (1, 5), ()], [(1, ())]), [(), (), ()])
        self.assertEqual(done([(), (1, 5), ()], [(0, ())]), [(), (1, 5), ()])

    def test_several_places(self):
        writes = [(3, (4, 4)), (0, ()), (1, (2, 2))]
        self.assertEqual(done([(1, 1), (), (3, 3), ()], writes), [(), (2, 2), (3, 3), (4, 4)])

    def test_one_place_several_times(self):
        self.assertEqual(done([()], [(0, (1, 1)), (0, (2, 2)), (0, (3, 3))]), [(3, 3)])
        self.assertEqual(done([()], [(0, (3, 3)), (0, (2, 2)), (0, (1, 1))]), [(1, 1)])
        self.assertEqual(done([()], [(0, (1, 1)), (0, ())]), [()])
        self.assertEqual(done([(9, 9)], [(0, ()), (0, (1, 1))]), [(1, 1)])

    def test_a_move_is_laid_then_cleared(self):
        shelf = [(1, 1), (), (2, 2), ()]
        writes = [(3, (2, 2)), (2, ()), (1, (1, 1)), (0, ())]
        self.assertEqual(done(shelf, writes[:1]), [(1, 1), (), (2, 2), (2, 2)])
        self.assertEqual(done(shelf, writes[:2]), [(1, 1), (), (), (2, 2)])
        self.assertEqual(done(shelf, writes[:3]), [(1, 1), (1, 1), (), (2, 2)])
        self.assertEqual(done(shelf, writes), [(), (1, 1), (), (2, 2)])


class NothingChangedOrKeptTest(unittest.TestCase):
    def shelves(self):
        shelves = [list(shelf) for shelf in STRAIGHT] + [list(shelf) for shelf, behind in TWICE]
        return [shelf for shelf in shelves if shelf]

    def assert_own(self, ask, shelf):
        """What is told is changed, then what was handed in: neither touches the other, nor what is told next."""
        as_it_was = list(shelf)
        told = ask(shelf)
        self.assertEqual(shelf, as_it_was)
        first_told = list(told)
        told.append((77, 77))
        told[0] = (78, 78)
        self.assertEqual(shelf, as_it_was)
        again = ask(shelf)
        self.assertEqual(again, first_told)
        shelf[0] = (79, 79)
        shelf.append((80, 80))
        self.assertEqual(again, first_told)

    def test_mended_rows_and_done_tell_lists_of_the_asker(self):
        for shelf in self.shelves():
            with self.subTest(shelf=shelf):
                self.assert_own(mended, list(shelf))
                self.assert_own(rows_of, list(shelf))
                self.assert_own(lambda places: done(places, []), list(shelf))
                self.assert_own(lambda places: done(places, [(0, ())]), list(shelf))

    def test_telling_truths_and_counts_changes_nothing(self):
        for shelf in self.shelves() + [list(shelf) for shelf in UNSOUND]:
            with self.subTest(shelf=shelf):
                as_it_was = list(shelf)
                is_straight(shelf)
                is_sound(shelf)
                held(shelf, 0, len(shelf))
                self.assertEqual(shelf, as_it_was)

    def test_writes_are_neither_changed_nor_kept(self):
        shelf = [(), (1, 5)]
        writes = [(0, (0, 3)), (1, ())]
        told = done(shelf, writes)
        self.assertEqual(writes, [(0, (0, 3)), (1, ())])
        self.assertEqual(shelf, [(), (1, 5)])
        writes.append((1, (8, 8)))
        writes[0] = (0, (7, 7))
        self.assertEqual(told, [(0, 3), ()])
        self.assertEqual(done(shelf, []), [(), (1, 5)])

    def test_an_empty_list_is_told_anew(self):
        for ask in (mended, rows_of, lambda places: done(places, [])):
            empty = []
            ask(empty).append((1, 1))
            self.assertEqual(empty, [])
            self.assertEqual(ask(empty), [])
        rows_of([()]).append((1, 1))
        self.assertEqual(rows_of([()]), [])


if __name__ == "__main__":
    unittest.main()
