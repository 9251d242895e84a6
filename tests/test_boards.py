import unittest

from gapshelf.boards import calm_of, cap_of, is_bounds, places_of, stretch_of, twofold

GOOD_BOUNDS = (
    (0, 2, 1), (0, 20, 1), (0, 20, 10), (0, 7, 3),
    (1, 3, 1), (1, 20, 1), (1, 18, 6), (1, 20, 6),
    (2, 4, 1), (2, 8, 2), (2, 20, 5), (2, 20, 1),
    (3, 5, 1), (3, 15, 3), (3, 20, 4), (3, 20, 1),
    (4, 6, 1), (4, 18, 3), (4, 20, 3), (4, 20, 1),
)


class IsBoundsTest(unittest.TestCase):
    def assert_bounds(self, thing):
        with self.subTest(thing=thing):
            self.assertIs(is_bounds(thing), True)

    def assert_none(self, thing):
        with self.subTest(thing=thing):
            self.assertIs(is_bounds(thing), False)

    def test_good_ones(self):
        for bounds in GOOD_BOUNDS:
            self.assert_bounds(bounds)

    def test_width_just_enough_and_one_too_few(self):
        for top in range(5):
            for step in range(1, 20 // (top + 2) + 1):
                self.assert_bounds((top, step * (top + 2), step))
                self.assert_none((top, step * (top + 2) - 1, step))

    def test_width_up_to_twenty(self):
        for top in range(5):
            self.assert_bounds((top, 20, 1))
            for width in (21, 22, 40, 10 ** 59):
                self.assert_none((top, width, 1))

    def test_width_zero_or_below(self):
        for top in range(5):
            for width in (0, -1, -20):
                for step in (1, 0, -1, -10):
                    self.assert_none((top, width, step))

    def test_top_outside(self):
        for top in (-1, -2, -3, -10 ** 59, 5, 6, 10 ** 59):
            self.assert_none((top, 20, 1))

    def test_step_zero_or_below(self):
        for top in range(5):
            for step in (0, -1, -2, -10 ** 59):
                self.assert_none((top, 20, step))

    def test_step_too_great(self):
        for bounds in ((0, 20, 11), (1, 20, 7), (2, 20, 6), (3, 20, 5), (4, 20, 4), (2, 8, 10 ** 59)):
            self.assert_none(bounds)

    def test_one_number_less_or_more(self):
        for thing in ((), (2,), (2, 8), (2, 8, 2, 2), (2, 8, 2, None), (2, 8, 2, 2, 2)):
            self.assert_none(thing)

    def test_a_number_that_is_none(self):
        for wrong in ("2", "", None, True, False, 2.0, [2], (2,), {}):
            self.assert_none((wrong, 8, 2))
            self.assert_none((2, wrong, 2))
            self.assert_none((2, 8, wrong))

    def test_truths_that_would_do_as_numbers(self):
        for thing in ((True, 8, 2), (False, 8, 2), (2, 8, True), (0, 2, True), (True, 3, True)):
            self.assert_none(thing)

    def test_another_kind_of_thing(self):
        for thing in (None, True, False, 0, 2, "", "282", "(2, 8, 2)", b"abc", 2.5, object(), tuple, is_bounds):
            self.assert_none(thing)
        for thing in ([2, 8, 2], {2: 8}, {2, 8, 1}, range(3), [(2, 8, 2)], ((2, 8, 2),), {0: 2, 1: 8, 2: 2}):
            self.assert_none(thing)

    def test_a_list_is_left_as_it_was(self):
        thing = [2, 8, 2]
        is_bounds(thing)
        self.assertEqual(thing, [2, 8, 2])

    def test_a_list_within_is_left_as_it_was(self):
        within = [2]
        is_bounds((within, 8, 2))
        self.assertEqual(within, [2])


class BoardsTest(unittest.TestCase):
    def assert_whole(self, number):
        self.assertIsInstance(number, int)
        self.assertNotIsInstance(number, bool)

    def test_twofold(self):
        self.assertEqual([twofold(height) for height in range(5)], [1, 2, 4, 8, 16])
        for height in range(5):
            self.assert_whole(twofold(height))

    def test_twofold_somewhat_beyond(self):
        self.assertEqual(twofold(5), 32)

    def test_places_of_written_out(self):
        self.assertEqual([places_of((4, 6, 1), height) for height in range(5)], [6, 12, 24, 48, 96])
        self.assertEqual([places_of((4, 20, 3), height) for height in range(5)], [20, 40, 80, 160, 320])
        self.assertEqual([places_of((2, 8, 2), height) for height in range(3)], [8, 16, 32])
        self.assertEqual(places_of((0, 7, 3), 0), 7)

    def test_places_of_are_width_times_boards(self):
        for bounds in GOOD_BOUNDS:
            for height in range(bounds[0] + 1):
                with self.subTest(bounds=bounds, height=height):
                    self.assertEqual(places_of(bounds, height), (1, 2, 4, 8, 16)[height] * bounds[1])
                    self.assert_whole(places_of(bounds, height))


class StretchTest(unittest.TestCase):
    def test_written_out(self):
        bounds = (2, 8, 2)
        self.assertEqual(stretch_of(bounds, 0, 0), (0, 8))
        self.assertEqual(stretch_of(bounds, 0, 7), (0, 8))
        self.assertEqual(stretch_of(bounds, 0, 8), (8, 16))
        self.assertEqual(stretch_of(bounds, 0, 31), (24, 32))
        self.assertEqual(stretch_of(bounds, 1, 15), (0, 16))
        self.assertEqual(stretch_of(bounds, 1, 16), (16, 32))
        self.assertEqual(stretch_of(bounds, 2, 0), (0, 32))
        self.assertEqual(stretch_of(bounds, 2, 31), (0, 32))

    def assert_stretch(self, bounds, height, place):
        stretch = stretch_of(bounds, height, place)
        self.assertIsInstance(stretch, tuple)
        self.assertEqual(len(stretch), 2)
        for number in stretch:
            self.assertIsInstance(number, int)
            self.assertNotIsInstance(number, bool)
        first, behind = stretch
        size = bounds[1] * (1, 2, 4, 8, 16)[height]
        self.assertEqual(behind - first, size)
        self.assertEqual(first % size, 0)
        self.assertTrue(first <= place < behind)
        self.assertEqual(stretch_of(bounds, height, first), stretch)
        self.assertEqual(stretch_of(bounds, height, behind - 1), stretch)
        self.assertEqual(stretch_of(bounds, height, behind), (behind, behind + size))

    def test_each_place_and_each_height(self):
        for bounds in GOOD_BOUNDS:
            top = bounds[0]
            for height in range(top + 1):
                for place in range(bounds[1] * (1, 2, 4, 8, 16)[top]):
                    with self.subTest(bounds=bounds, height=height, place=place):
                        self.assert_stretch(bounds, height, place)


class CapAndCalmTest(unittest.TestCase):
    def assert_caps(self, bounds, caps):
        with self.subTest(bounds=bounds):
            self.assertEqual([cap_of(bounds, height) for height in range(bounds[0] + 1)], caps)

    def assert_calms(self, bounds, calms):
        with self.subTest(bounds=bounds):
            self.assertEqual([calm_of(bounds, height) for height in range(bounds[0])], calms)

    def test_caps(self):
        self.assert_caps((0, 2, 1), [2])
        self.assert_caps((0, 20, 10), [20])
        self.assert_caps((1, 3, 1), [3, 4])
        self.assert_caps((1, 20, 6), [20, 28])
        self.assert_caps((2, 8, 2), [8, 12, 16])
        self.assert_caps((2, 20, 1), [20, 38, 72])
        self.assert_caps((3, 5, 1), [5, 8, 12, 16])
        self.assert_caps((3, 20, 4), [20, 32, 48, 64])
        self.assert_caps((4, 6, 1), [6, 10, 16, 24, 32])
        self.assert_caps((4, 20, 3), [20, 34, 56, 88, 128])

    def test_calms(self):
        self.assert_calms((0, 2, 1), [])
        self.assert_calms((1, 3, 1), [2])
        self.assert_calms((1, 20, 6), [14])
        self.assert_calms((2, 8, 2), [6, 8])
        self.assert_calms((2, 20, 1), [19, 36])
        self.assert_calms((3, 5, 1), [4, 6, 8])
        self.assert_calms((3, 20, 4), [16, 24, 32])
        self.assert_calms((4, 6, 1), [5, 8, 12, 16])
        self.assert_calms((4, 20, 3), [17, 28, 44, 64])

    def test_a_height_s_calm_is_half_the_cap_of_the_next_one(self):
        for bounds in GOOD_BOUNDS:
            for height in range(bounds[0]):
                with self.subTest(bounds=bounds, height=height):
                    self.assertEqual(2 * calm_of(bounds, height), cap_of(bounds, height + 1))

    def test_they_are_whole_numbers(self):
        for bounds in GOOD_BOUNDS:
            for height in range(bounds[0] + 1):
                for number in (cap_of(bounds, height), calm_of(bounds, height)):
                    self.assertIsInstance(number, int)
                    self.assertNotIsInstance(number, bool)


if __name__ == "__main__":
    unittest.main()
