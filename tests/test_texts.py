import unittest

from gapshelf.disks import blank_disk
from gapshelf.errors import NoText
from gapshelf.texts import read_disk, read_number, write_disk, write_number

from helper import BOUNDS, GREAT, copy_of, many_disks

GREATEST = 10 ** 60 - 1

NUMBERS = (
    (0, "0"), (1, "1"), (-1, "-1"), (7, "7"), (10, "10"), (-10, "-10"), (100, "100"), (1234567890, "1234567890"),
    (-9876543210, "-9876543210"), (GREAT, "1" + "0" * 59), (-GREAT, "-1" + "0" * 59), (GREATEST, "9" * 60),
    (-GREATEST, "-" + "9" * 60), (GREAT - 1, "9" * 59),
)

NO_NUMBER_TEXTS = (
    "", "-", "--", "--1", "-0", "00", "01", "007", "-01", "-00", "+1", "+0", "+", "-+1", "1-", "1-2", "- 1", " ", " 1",
    "1 ", " 1 ", "1 2", "1_000", "_1", "1.0", "1.", ".", ".5", "1e3", "1,2", ",", "0x1", "0b1", "0o7", "a", "1a", "a1",
    "/", "\t", "\n", "1\n", "\n1", "1\t", "\t1", "-\n1", "0\n", "1\r", "\r\n", "none", "True", "1:2", "!", "~",
    "9" * 61, "1" + "0" * 60, "-" + "9" * 61, "-1" + "0" * 60, "0" * 60, "0" + "9" * 59, "9" * 5000, "'1'", "(1)", "1;",
    "1" * 30 + " 1",
)

NO_TEXTS = (None, True, False, 0, 1, -1, 12, [], ["1"], (), ("1",), {}, ["0"], b"1", 1.5, object())

DISKS = (
    ([[()], [()], [(0, 0)]], ". / . / 0,0"),
    ([[(3, 7)], [()], [(0, 0)]], "3,7 / . / 0,0"),
    ([[(3, 7)], [(3, 7)], [(1, 0)]], "3,7 / 3,7 / 1,0"),
    ([[(), (3, 7), ()], [(), (), ()], [(0, 0)]], ". 3,7 . / . . . / 0,0"),
    ([[(), ()], [(1, 2), (3, 4)], [(1, 2)]], ". . / 1,2 3,4 / 1,2"),
    # unlike counts of places
    ([[()], [(), (), ()], [(0, 0)]], ". / . . . / 0,0"),
    ([[(1, 1), (), (2, 2)], [(5, 5)], [(0, 0)]], "1,1 . 2,2 / 5,5 / 0,0"),
    # no sound disks
    ([[(2, 2), (1, 1)], [(1, 1), (1, 1)], [(0, 0)]], "2,2 1,1 / 1,1 1,1 / 0,0"),
    ([[()], [()], [(7, 9)]], ". / . / 7,9"),
    ([[()], [()], [(-1, -2)]], ". / . / -1,-2"),
    ([[()], [()], [(GREATEST, -GREATEST)]], ". / . / " + "9" * 60 + ",-" + "9" * 60),
    # great numbers and such below nought
    ([[(-1, -2)], [(0, 0)], [(0, 0)]], "-1,-2 / 0,0 / 0,0"),
    ([[(GREATEST, -GREATEST), ()], [(), (-GREAT, GREAT)], [(1, 1)]],
     "9" * 60 + ",-" + "9" * 60 + " . / . -1" + "0" * 59 + ",1" + "0" * 59 + " / 1,1"),
)

NO_DISK_TEXTS = (
    "", " ", ".", "/", "0,0", " / ", " /  / ", "//", "././0,0", "1",
    # a part left out
    ". / .", ". / 0,0", ". / . / ", ". / . /", " / . / 0,0", ". /  / 0,0", "/ . / 0,0", ". / / 0,0", " /  / 0,0",
    "/ / 0,0",
    # a part once more
    ". / . / . / 0,0", ". / . / 0,0 / 0,0", ". / . / 0,0 / .", ". / . / 0,0 /", ". / . / 0,0 / ", "/ . / . / 0,0",
    " / . / . / 0,0", ". / / . / 0,0", ". / . / / 0,0", ". /  / . / 0,0",
    # the sign first, or none
    "0,0 / . / .", ". / 0,0 / .", ". / . / .", ". / . / . .", ". / . / 0,0 0,0", ". / . / 0,0 .", ". / . / 0",
    ". / . / 0,0,0", ". / . / 0 0", ". / . / ,", ". / . / 0,", ". / . / ,0", ". / . / 00,0", ". / . / 0,-0",
    ". / . / 0:0",
    # blanks
    ".  . / . / 0,0", ".  / . / 0,0", ". /  . / 0,0", ". / .  / 0,0", ". / . /  0,0", " . / . / 0,0", ". / . / 0,0 ",
    ". / . / 0, 0", ". / . / 0 ,0", "1, 2 / . / 0,0", "1 ,2 / . / 0,0", ". / .  . / 0,0", "  / . / 0,0", ". /   / 0,0",
    # things that are none
    "1,2,3 / . / 0,0", ". / 1,2,3 / 0,0", "1 / . / 0,0", ". / 1 / 0,0", "1, / . / 0,0", ",1 / . / 0,0", ", / . / 0,0",
    "1,,2 / . / 0,0", "1.2 / . / 0,0", ".. / . / 0,0", ". / .. / 0,0", ".,. / . / 0,0", "1,. / . / 0,0",
    "a,b / . / 0,0", "01,2 / . / 0,0", "1,02 / . / 0,0", "-0,1 / . / 0,0", "1,-0 / . / 0,0", "+1,2 / . / 0,0",
    "1,+2 / . / 0,0",
    "1:2 / . / 0,0", "(1,2) / . / 0,0", "() / . / 0,0", "- / . / 0,0", "1,- / . / 0,0", "9" * 61 + ",1 / . / 0,0",
    "1," + "9" * 61 + " / . / 0,0", ". / . / 0," + "9" * 61, "-" + "9" * 61 + ",1 / . / 0,0",
    # a stroke without blanks
    "./ . / 0,0", ". /. / 0,0", "./. / 0,0", ". / ./ 0,0", ". / . /0,0", ". / ./0,0", "./. / . / 0,0", ". / . / 0,0/",
    # tabs and line ends
    ".\t. / . / 0,0", ".\t/ . / 0,0", ". /\t. / 0,0", ". / . / 0,0\n", "\n. / . / 0,0", ".\n. / . / 0,0",
    ". / . / 0,0\t", ".\n/ . / 0,0", ". / . / 0,\n0", "\t. / . / 0,0", ". / . / 0,0\r\n", ". / .\n / 0,0",
    # other strokes
    ". \\ . \\ 0,0", ". | . | 0,0", ". // . // 0,0", ". / . , 0,0",
)


class NumberTest(unittest.TestCase):
    def test_written(self):
        for number, text in NUMBERS:
            with self.subTest(number=number):
                self.assertEqual(write_number(number), text)

    def test_read(self):
        for number, text in NUMBERS:
            with self.subTest(text=text):
                self.assertEqual(read_number(text), number)
                self.assertIs(read_number(text).__class__, int)

    def test_read_back(self):
        numbers = [10 ** many for many in range(60)] + [-9 ** many for many in range(60)]
        for number in list(range(-1200, 1200)) + numbers:
            self.assertEqual(read_number(write_number(number)), number)

    def test_each_count_of_figures(self):
        for many in range(1, 61):
            self.assertEqual(read_number("7" * many), int("7" * many))
            self.assertEqual(read_number("-" + "7" * many), -int("7" * many))
        for many in range(61, 70):
            self.assertRaises(NoText, read_number, "7" * many)
            self.assertRaises(NoText, read_number, "-" + "7" * many)

    def test_refused(self):
        for text in NO_NUMBER_TEXTS:
            with self.subTest(text=text):
                self.assertRaises(NoText, read_number, text)

    def test_one_sign_that_is_no_figure(self):
        for number in list(range(32, 127)) + [9, 10, 13]:
            sign = chr(number)
            if not "0" <= sign <= "9":
                for text in (sign, "1" + sign, "1" + sign + "2", sign + sign):
                    self.assertRaises(NoText, read_number, text)
                if sign != "-":
                    self.assertRaises(NoText, read_number, sign + "1")

    def test_no_text(self):
        for thing in NO_TEXTS:
            with self.subTest(thing=thing):
                self.assertRaises(NoText, read_number, thing)


class DiskTest(unittest.TestCase):
    def test_written(self):
        for disk, text in DISKS:
            with self.subTest(text=text):
                self.assertEqual(write_disk(copy_of(disk)), text)

    def test_read(self):
        for disk, text in DISKS:
            with self.subTest(text=text):
                self.assertEqual(read_disk(text), disk)
                self.assert_kinds(read_disk(text))

    def assert_kinds(self, told):
        self.assertEqual([part.__class__ for part in [told] + told], [list] * 4)
        for part in told:
            for thing in part:
                self.assertIs(thing.__class__, tuple)
                self.assertEqual([number.__class__ for number in thing], [int] * len(thing))

    def test_all_empty_and_all_full(self):
        for many in (1, 2, 6, 32, 320):
            full = [(key, -key) for key in range(many)]
            for disk in ([[()] * many, [()] * many, [(0, 0)]], [full, full, [(1, 4)]], [full, [()] * many, [(0, 1)]]):
                self.assertEqual(read_disk(write_disk(disk)), disk)
        self.assertEqual(write_disk([[(0, 0), (1, -1)], [(), ()], [(0, 1)]]), "0,0 1,-1 / . . / 0,1")

    def test_read_back(self):
        for bounds in BOUNDS:
            for disk in many_disks(bounds) + [blank_disk(bounds)]:
                text = write_disk(disk)
                self.assertEqual(read_disk(text), disk)
                self.assertEqual(write_disk(read_disk(text)), text)

    def test_refused(self):
        for text in NO_DISK_TEXTS:
            with self.subTest(text=text):
                self.assertRaises(NoText, read_disk, text)

    def test_no_text(self):
        for thing in NO_TEXTS + ([[()], [()], [(0, 0)]], [".", ".", "0,0"]):
            with self.subTest(thing=thing):
                self.assertRaises(NoText, read_disk, thing)

    def test_one_sign_more_or_less(self):
        text = "1,2 . / . -3,4 / 1,0"
        for place in range(len(text) + 1):
            for sign in " \t\n,./-+x":
                self.assert_no_other_reading(text[:place] + sign + text[place:])
            self.assert_no_other_reading(text[:place] + text[place + 1:])

    def assert_no_other_reading(self, text):
        """What is read is just what is so written."""
        try:
            told = read_disk(text)
        except NoText:
            return
        self.assertEqual(write_disk(told), text)

    def test_nothing_is_changed_or_kept(self):
        for disk, text in DISKS:
            handed = copy_of(disk)
            write_disk(handed)
            self.assertEqual(handed, disk)
            told = read_disk(text)
            for part in told:
                part[0] = (5, 5)
                part.append((6, 6))
            told.append([])
            self.assertEqual(read_disk(text), disk)

    def test_no_list_is_one_with_another(self):
        told = read_disk(". . / . . / 0,0")
        told[0][1] = (1, 1)
        self.assertEqual(told, [[(), (1, 1)], [(), ()], [(0, 0)]])


if __name__ == "__main__":
    unittest.main()
