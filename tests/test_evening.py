import unittest

from gapshelf.evening import moves_of, targets, writes_of

from helper import GREAT, all_shelves, assert_own_list, choices_of, shelf_at, walk_moves

HUGE = 10 ** 40


class TargetsTest(unittest.TestCase):
    def test_one_thing(self):
        for size in (1, 2, 3, 8, 320, HUGE, GREAT):
            with self.subTest(size=size):
                self.assertEqual(targets(1, size), [0])

    def test_as_many_things_as_places(self):
        for size in (1, 2, 3, 8, 20, 320):
            with self.subTest(size=size):
                self.assertEqual(targets(size, size), list(range(size)))

    def test_written_out(self):
        self.assertEqual(targets(2, 3), [0, 1])
        self.assertEqual(targets(2, 8), [0, 4])
        self.assertEqual(targets(3, 8), [0, 2, 5])
        self.assertEqual(targets(5, 8), [0, 1, 3, 4, 6])
        self.assertEqual(targets(7, 8), [0, 1, 2, 3, 4, 5, 6])
        self.assertEqual(targets(4, 6), [0, 1, 3, 4])
        self.assertEqual(targets(7, 10), [0, 1, 2, 4, 5, 7, 8])

    def test_few_things_in_many_places(self):
        self.assertEqual(targets(2, 320), [0, 160])
        self.assertEqual(targets(3, 320), [0, 106, 213])
        self.assertEqual(targets(6, 1000), [0, 166, 333, 500, 666, 833])

    def test_great_counts_of_places(self):
        self.assertEqual(targets(2, HUGE), [0, 5 * 10 ** 39])
        self.assertEqual(targets(3, HUGE), [0, int("3" * 40), int("6" * 40)])
        self.assertEqual(targets(2, HUGE + 1), [0, 5 * 10 ** 39])
        self.assertEqual(targets(2, HUGE - 1), [0, 5 * 10 ** 39 - 1])
        self.assertEqual(targets(9, HUGE - 1), [int(str(figure) * 40) if figure else 0 for figure in range(9)])

    def test_the_formula(self):
        for size in list(range(1, 26)) + [96, HUGE, HUGE + 7]:
            for many in range(1, min(size, 40) + 1):
                with self.subTest(many=many, size=size):
                    told = targets(many, size)
                    self.assertIs(told.__class__, list)
                    self.assertEqual(told, [number * size // many for number in range(many)])

    def test_they_are_whole_numbers_that_rise_within_the_places(self):
        for size in list(range(1, 26)) + [HUGE]:
            for many in range(1, min(size, 25) + 1):
                with self.subTest(many=many, size=size):
                    told = targets(many, size)
                    self.assertTrue(all(target.__class__ is int for target in told))
                    self.assertEqual(told, sorted(set(told)))
                    self.assertEqual(len(told), many)
                    self.assertTrue(0 == told[0] and told[-1] < size)

    def assert_spread(self, many, size, row):
        told = targets(many, size)
        least = many * row // size
        most = -(-many * row // size)
        for first in range(0, size, row):
            within = len([target for target in told if first <= target < first + row])
            self.assertTrue(least <= within <= most, (many, size, row, first))

    def test_each_row_gets_its_share(self):
        for size in range(1, 33):
            for row in range(1, size + 1):
                if size % row == 0:
                    for many in range(1, size + 1):
                        self.assert_spread(many, size, row)

    def test_each_row_gets_its_share_of_great_counts_of_places(self):
        for parts in (1, 2, 5, 8, 10, 16, 25):
            for many in (1, 2, 3, 7, 12, 33):
                self.assert_spread(many, HUGE, HUGE // parts)


def told_moves(places, aims):
    """The words of the promise, taken thing by thing."""
    moves = []
    for number in range(len(places) - 1, -1, -1):
        if aims[number] > places[number]:
            moves.append((places[number], aims[number]))
    for number in range(len(places)):
        if aims[number] < places[number]:
            moves.append((places[number], aims[number]))
    return moves


class MovesTest(unittest.TestCase):
    def test_empty_lists(self):
        self.assertEqual(moves_of([], []), [])

    def test_all_at_their_targets(self):
        self.assertEqual(moves_of([0], [0]), [])
        self.assertEqual(moves_of([0, 3, 7], [0, 3, 7]), [])
        self.assertEqual(moves_of([HUGE], [HUGE]), [])

    def test_all_go_on(self):
        self.assertEqual(moves_of([0], [1]), [(0, 1)])
        self.assertEqual(moves_of([0, 1, 2], [1, 2, 3]), [(2, 3), (1, 2), (0, 1)])
        self.assertEqual(moves_of([0, 1, 2], [1, 4, 9]), [(2, 9), (1, 4), (0, 1)])

    def test_all_go_back(self):
        self.assertEqual(moves_of([1], [0]), [(1, 0)])
        self.assertEqual(moves_of([1, 2, 3], [0, 1, 2]), [(1, 0), (2, 1), (3, 2)])
        self.assertEqual(moves_of([5, 6, 7], [0, 2, 5]), [(5, 0), (6, 2), (7, 5)])

    def test_both_mixed(self):
        self.assertEqual(moves_of([1, 2], [0, 3]), [(2, 3), (1, 0)])
        self.assertEqual(moves_of([0, 5], [2, 3]), [(0, 2), (5, 3)])
        self.assertEqual(moves_of([1, 2, 3, 4], [0, 2, 3, 5]), [(4, 5), (1, 0)])
        moves = [(6, 7), (1, 2), (0, 1), (4, 3), (5, 4), (9, 8)]
        self.assertEqual(moves_of([0, 1, 4, 5, 6, 9], [1, 2, 3, 4, 7, 8]), moves)
        self.assertEqual(moves_of([2, 3, 4, 7, 8], [0, 1, 4, 8, 9]), [(8, 9), (7, 8), (2, 0), (3, 1)])

    def test_great_numbers(self):
        places = [0, HUGE, HUGE + 1, GREAT]
        aims = [1, HUGE - 1, HUGE + 2, GREAT]
        self.assertEqual(moves_of(places, aims), [(HUGE + 1, HUGE + 2), (0, 1), (HUGE, HUGE - 1)])

    def test_pairs_are_tuples_in_a_list(self):
        told = moves_of([1, 2, 4], [0, 3, 4])
        self.assertIs(told.__class__, list)
        self.assertEqual([move.__class__ for move in told], [tuple, tuple])

    def test_all_places_and_targets_of_small_shelves(self):
        for many in range(7):
            for places in choices_of(6, many):
                for aims in choices_of(6, many):
                    self.assertEqual(moves_of(list(places), list(aims)), told_moves(places, aims), (places, aims))

    def test_whenever_a_move_is_done_its_target_is_empty(self):
        for many in range(7):
            for places in choices_of(6, many):
                for aims in choices_of(6, many):
                    self.assert_targets_empty(places, aims)

    def assert_targets_empty(self, places, aims):
        filled = set(places)
        for place, target in moves_of(list(places), list(aims)):
            self.assertIn(place, filled)
            self.assertNotIn(target, filled, (places, aims))
            filled.remove(place)
            filled.add(target)
        self.assertEqual(filled, set(aims))


class WritesTest(unittest.TestCase):
    def test_no_moves(self):
        self.assertEqual(writes_of([], []), [])
        self.assertEqual(writes_of([(), (1, 5)], []), [])

    def test_one_move(self):
        self.assertEqual(writes_of([(1, 5), ()], [(0, 1)]), [(1, (1, 5)), (0, ())])
        self.assertEqual(writes_of([(), (), (1, -5)], [(2, 0)]), [(0, (1, -5)), (2, ())])
        self.assertEqual(writes_of([(GREAT, -GREAT), ()], [(0, 1)]), [(1, (GREAT, -GREAT)), (0, ())])

    def test_two_moves(self):
        shelf = [(1, 5), (2, 6), (), ()]
        self.assertEqual(writes_of(shelf, [(1, 3), (0, 2)]), [(3, (2, 6)), (1, ()), (2, (1, 5)), (0, ())])

    def test_onto_a_place_that_an_earlier_move_has_cleared(self):
        shelf = [(1, 5), (2, 6), (3, 7), ()]
        writes = [(3, (3, 7)), (2, ()), (2, (2, 6)), (1, ()), (1, (1, 5)), (0, ())]
        self.assertEqual(writes_of(shelf, [(2, 3), (1, 2), (0, 1)]), writes)
        shelf = [(), (1, 5), (2, 6)]
        self.assertEqual(writes_of(shelf, [(1, 0), (2, 1)]), [(0, (1, 5)), (1, ()), (1, (2, 6)), (2, ())])

    def test_a_thing_that_an_earlier_move_has_laid(self):
        shelf = [(1, 5), (), (), (2, 6)]
        writes = [(1, (1, 5)), (0, ()), (2, (1, 5)), (1, ())]
        self.assertEqual(writes_of(shelf, [(0, 1), (1, 2)]), writes)

    def test_writes_are_tuples_in_a_list(self):
        told = writes_of([(1, 5), ()], [(0, 1)])
        self.assertIs(told.__class__, list)
        self.assertEqual([write.__class__ for write in told], [tuple, tuple])
        self.assertEqual([write[1].__class__ for write in told], [tuple, tuple])

    def test_each_move_is_two_writes_on_every_small_shelf(self):
        for shelf in all_shelves(6):
            places = [place for place, thing in enumerate(shelf) if thing]
            for aims in choices_of(6, len(places)):
                moves = moves_of(places, aims)
                writes = writes_of(list(shelf), list(moves))
                told = []
                for place, target in moves:
                    told.append((target, shelf[place]))
                    told.append((place, ()))
                self.assertEqual(writes, told, (shelf, aims))

    def test_behind_each_write_nothing_is_lost(self):
        for shelf in all_shelves(6):
            places = [place for place, thing in enumerate(shelf) if thing]
            for aims in choices_of(6, len(places)):
                lying = walk_moves(self, shelf, writes_of(list(shelf), moves_of(places, aims)))
                self.assertEqual(lying, shelf_at(6, aims))


class NothingChangedOrKeptTest(unittest.TestCase):
    def test_targets_are_a_new_list_each_time(self):
        for many, size in ((1, 1), (3, 8), (8, 8), (2, HUGE)):
            with self.subTest(many=many, size=size):
                told = targets(many, size)
                as_told = list(told)
                told.append(99)
                told[0] = 98
                self.assertEqual(targets(many, size), as_told)

    def test_moves_of(self):
        for places, aims in (([0, 1], [1, 2]), ([1, 2], [0, 1]), ([0, 3, 5, 6], [1, 3, 4, 9])):
            with self.subTest(places=places, aims=aims):
                assert_own_list(self, moves_of, [list(places), list(aims)], (98, 99))

    def test_writes_of(self):
        shelf = [(1, 5), (2, 6), (), (), (3, 7)]
        for moves in ([(0, 2)], [(1, 3), (0, 1)], [(1, 2), (0, 1), (4, 3)]):
            with self.subTest(moves=moves):
                assert_own_list(self, writes_of, [list(shelf), list(moves)], (1, (98, 99)))

    def test_empty_lists_are_told_anew(self):
        moves_of([], []).append((1, 2))
        self.assertEqual(moves_of([], []), [])
        places = [1, 2]
        moves_of(places, places).append((1, 2))
        self.assertEqual(moves_of(places, places), [])
        self.assertEqual(places, [1, 2])
        shelf = [(1, 5)]
        moves = []
        writes_of(shelf, moves).append((0, ()))
        self.assertEqual(writes_of(shelf, moves), [])
        self.assertEqual((shelf, moves), ([(1, 5)], []))


if __name__ == "__main__":
    unittest.main()
