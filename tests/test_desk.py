import unittest

from gapshelf.desk import Desk
from gapshelf.errors import BadBounds, BadDisk, Full, NoKey, NoRow, NoText
from gapshelf.texts import write_disk

from helper import BOUNDS, GREAT, NO_BOUNDS, disk_with, shelf_at, size_of, told_cap

SMALL = (1, 3, 1)  # areas of 6 places, shelves of 3 and 6 places, caps 3 and 4

GREATEST = "9" * 60

NO_ROWS = (
    "", " ", "-", "0", "1", "7 8", "ok", "none", "most", "most 1", "/", ".", ". / . / 0,0", "help", "quit",
    # unknown words
    "Put 1 1", "PUT 1 1", "puts 1 1", "pu 1 1", "put1 1", "set 1 1", "takes 1", "Take 1", "gett 1", "Rows", "ROWS",
    "row", "disks", "Disk", "count", "Counts", "excesses", "Over", "LOAD . / . / 0,0", "loads . / . / 0,0", "Load x",
    # too few words
    "put", "put 1", "take", "get", "load", "put 1 most 2", "put most 2", "take most 2", "put 1 1 most", "take 1 most",
    # too many words
    "put 1 2 3", "put 1 2 3 4", "take 1 2", "get 1 2", "rows 1", "disk 1", "counts 1", "excess 1", "over 1",
    "rows rows", "rows most 1", "get 1 most 1", "disk most 1", "put 1 2 most 3 4", "take 1 most 2 3",
    "put 1 2 most 3 most 4", "take 1 most 2 most 3", "put 1 2 most 3 put 1 2", "over over", "counts most 0",
    # another word than most
    "put 1 2 least 3", "take 1 least 2", "put 1 2 Most 3", "take 1 MOST 2", "put 1 2 mos 3", "put 1 2 3 most",
    "put most 3 1 2", "take most 3 1", "put 1 most 3 2",
    # blanks
    " put 1 1", "put 1 1 ", "put  1 1", "put 1  1", " take 1", "take 1 ", "take  1", " get 1", "get 1 ", "get  1",
    " rows", "rows ", " disk", "disk ", " counts", "counts ", " excess", "excess ", " over", "over ", "put 1 1  most 2",
    "put 1 1 most  2", "put 1 1 most 2 ", "put 1 1 most ", "take 1  most 2", "take 1 most  2", "take 1 most 2 ", "put ",
    "take ", "get ", " load . / . / 0,0", " load ", "  ", "put  ", "put 1 ", "take 1 most ",
    # tabs and line ends
    "put\t1 1", "put 1\t1", "put 1 1\n", "\nput 1 1", "rows\n", "rows\t", "\trows", "get 1\n", "take\t1",
    "take 1\nrows", "load\t. / . / 0,0", "load\n", "\n", "\t", "rows\r\n", "put 1 1 most 1\n", "put 1 1 most\t1",
    "rows\nrows",
    # numbers that are none
    "put a 1", "put 1 a", "put 01 1", "put 1 01", "put -0 1", "put 1 -0", "put +1 1", "put 1 +1", "put - 1", "put 1 -",
    "put 1.0 1", "put 1,2", "put 1:2", "put 1 1,", "put 00 0", "put none 1", "put 1 none", "put 1 . ", "put . 1",
    "put 1" + GREATEST + " 1", "put 1 1" + GREATEST, "put -1" + GREATEST + " 1", "take 1" + GREATEST,
    "get 1" + GREATEST, "take a", "take 01", "take -0", "take +1", "take -", "take 1.0", "take 0x1", "get a",
    "get 01", "get -0", "get +1", "get -", "get 1_0", "get rows", "take put",
    # most with a number that is none, or one below 0
    "put 1 1 most a", "put 1 1 most 01", "put 1 1 most -0", "put 1 1 most -1", "put 1 1 most +1", "put 1 1 most -",
    "take 1 most a", "take 1 most -1", "take 1 most -0", "take 1 most 00", "take 1 most -" + GREATEST,
    "take 1 most none", "put 1 1 most 1" + GREATEST, "put 1 1 most -" + GREATEST,
)

NO_TEXTS = (None, True, False, 0, 1, [], ["rows"], ("rows",), (), {}, b"rows", 1.5, object(), ["put", "1", "1"])


def state_of(desk):
    return [desk.say(row) for row in ("disk", "rows", "counts", "excess", "over")]


class MakingTest(unittest.TestCase):
    def test_of_no_bounds(self):
        blank = " / ".join([" ".join(["."] * 32)] * 2 + ["0,0"])
        for desk in (Desk(), Desk(None), Desk(bounds=None), Desk((2, 8, 2))):
            self.assertEqual(state_of(desk), [blank, "-", "0 0 0 0 0", "0", "0"])

    def test_the_usual_bounds_have_their_caps(self):
        desk = Desk()
        for key in range(16):
            desk.say(f"put {key} {key}")
        self.assertRaises(Full, desk.say, "put 16 16")
        self.assertTrue(desk.say("disk").endswith(" / 0,2"))

    def test_of_bounds(self):
        for bounds in BOUNDS:
            desk = Desk(bounds)
            area = " ".join(["."] * size_of(bounds, bounds[0]))
            self.assertEqual(state_of(desk), [f"{area} / {area} / 0,0", "-", "0 0 0 0 0", "0", "0"])

    def test_of_bounds_that_are_none(self):
        for bounds in NO_BOUNDS:
            with self.subTest(bounds=bounds):
                self.assertRaises(BadBounds, Desk, bounds)

    def test_two_desks_do_not_touch_one_another(self):
        one, other = Desk(), Desk()
        one.say("put 1 1")
        self.assertEqual((one.say("rows"), other.say("rows")), ("1:1", "-"))


class RowsTest(unittest.TestCase):
    def assert_answers(self, desk, answers):
        for row, answer in answers:
            with self.subTest(row=row):
                self.assertEqual(desk.say(row), answer)

    def test_deeds_and_questions(self):
        self.assert_answers(Desk(SMALL), (
            ("rows", "-"), ("get 1", "none"), ("put 20 2", "1"), ("get 20", "2"), ("rows", "20:2"), ("over", "1"),
            ("put 30 -3", "1"), ("rows", "20:2 30:-3"), ("put 20 7", "1"), ("get 20", "7"), ("put 10 1", "5"),
            ("disk", "10,1 20,7 30,-3 . . . / . . . . . . / 0,0"), ("counts", "3 2 0 0 0"), ("over", "3"),
            ("put 40 4", "7"), ("disk", "10,1 20,7 30,-3 . . . / 10,1 . 20,7 30,-3 40,4 . / 1,1"),
            ("counts", "4 3 3 0 0"), ("excess", "0"), ("over", "1"), ("take 20", "1"), ("get 20", "none"),
            ("rows", "10:1 30:-3 40:4"), ("take 30", "1"), ("take 10", "1"), ("take 40", "1"), ("rows", "-"),
            ("disk", "10,1 20,7 30,-3 . . . / . . . . . . / 1,1"), ("counts", "4 3 3 0 0"), ("over", "0"),
        ))

    def test_excess(self):
        self.assert_answers(Desk(SMALL), (
            ("load 1,1 2,2 3,3 . . . / . . . . . . / 0,1", "ok"), ("excess", "1"), ("over", "0"),
            ("counts", "0 0 0 1 0"), ("take 1", "1"), ("excess", "0"), ("counts", "0 0 0 1 0"),
        ))

    def test_numbers_below_nought_and_great_ones(self):
        self.assert_answers(Desk(), (
            ("put 0 0", "1"), (f"put -{GREATEST} {GREATEST}", "3"), (f"put {GREATEST} -1", "3"),
            ("get 0", "0"), (f"get -{GREATEST}", GREATEST), (f"get {GREATEST}", "-1"),
            ("rows", f"-{GREATEST}:{GREATEST} 0:0 {GREATEST}:-1"), (f"take -{GREATEST}", "1"), ("take 0", "1"),
        ))

    def test_deeds_broken_off(self):
        self.assert_answers(Desk(SMALL), (
            ("put 20 2", "1"), ("counts", "1 0 0 0 0"), ("put 10 1 most 1", "1"), ("counts", "0 0 0 0 1"),
            ("disk", "20,2 . . . . . / . . . . . . / 0,0"), ("put 10 1 most 2", "2"),
            ("disk", ". 20,2 . . . . / . . . . . . / 0,0"), ("put 10 1 most 0", "0"), ("rows", "20:2"),
            ("put 10 1 most 1", "1"), ("counts", "1 0 0 0 1"), ("rows", "10:1 20:2"), ("take 10 most 0", "0"),
            ("counts", "0 0 0 0 2"), ("rows", "10:1 20:2"), ("put 10 5 most 0", "0"), ("get 10", "1"),
            ("put 10 5 most 1", "1"), ("get 10", "5"), ("put 30 3 most 7", "1"), ("counts", "1 0 0 0 2"),
            ("take 10 most 1", "1"), ("take 20 most " + GREATEST, "1"), ("rows", "30:3"), ("counts", "1 0 0 0 2"),
            ("put 1 1", "3"), ("put 2 2", "3"), ("put 4 4 most 3", "3"),
            ("disk", "1,1 2,2 30,3 . . . / 1,1 . 2,2 . 30,3 . / 0,0"),
        ))

    def test_load(self):
        desk = Desk(SMALL)
        self.assert_answers(desk, (
            ("put 9 9", "1"), ("load 1,2 . 3,4 9,9 . . / . . . 8,8 . . / 0,0", "ok"), ("rows", "1:2 3:4"),
            ("disk", "1,2 . 3,4 9,9 . . / . . . 8,8 . . / 0,0"), ("counts", "0 0 0 0 2"), ("get 9", "none"),
            ("load . . . . . . / 1,1 . 2,2 3,3 . 3,3 / 1,1", "ok"), ("disk", ". . . . . . / 1,1 . 2,2 3,3 . . / 1,1"),
            ("rows", "1:1 2:2 3:3"), ("counts", "0 0 0 0 0"),
        ))
        for bounds in BOUNDS:
            desk = Desk(bounds)
            for height in range(bounds[0] + 1):
                shelf = shelf_at(size_of(bounds, height), range(told_cap(bounds, height)))
                text = write_disk(disk_with(bounds, 1, height, shelf))
                self.assertEqual(desk.say("load " + text), "ok")
                self.assertEqual(desk.say("disk"), text)

    def test_a_disk_said_by_one_desk_is_loaded_by_another(self):
        one, other = Desk(), Desk()
        for key in range(14):
            one.say(f"put {key * 5 % 17} {key}")
        self.assertEqual(other.say("load " + one.say("disk")), "ok")
        self.assertEqual(other.say("rows"), one.say("rows"))
        other.say("take 0")
        self.assertNotEqual(other.say("rows"), one.say("rows"))

    def test_answers_are_texts(self):
        desk = Desk()
        for row in ("put 1 1", "get 1", "get 2", "rows", "disk", "counts", "excess", "over", "take 1", "take 1"):
            if row != "take 1" or desk.say("rows") != "-":
                self.assertIs(desk.say(row).__class__, str)


class RefusedTest(unittest.TestCase):
    DISK = "1,1 . 2,2 3,3 . 4,4 / 9,9 . . . . . / 0,1"  # its cap of things, at height top

    def desk(self):
        """A desk with something to lose, and with counts that aren't all nought."""
        desk = Desk(SMALL)
        desk.say("load " + self.DISK.replace("4,4", "."))
        desk.say("put 4 4")
        return desk

    def assert_refused(self, desk, refusal, row):
        before = state_of(desk)
        with self.subTest(row=row):
            with self.assertRaises(refusal) as caught:
                desk.say(row)
            self.assertIs(caught.exception.__class__, refusal)
            self.assertEqual(state_of(desk), before)

    def test_counts_are_not_all_nought(self):
        self.assertEqual(self.desk().say("counts").split()[0], "1")

    def test_rows_that_are_none(self):
        full, blank = self.desk(), Desk(SMALL)
        for row in NO_ROWS + NO_TEXTS:
            self.assert_refused(full, NoRow, row)
            self.assert_refused(blank, NoRow, row)

    def test_no_row_ahead_of_all_else(self):
        desk = self.desk()
        for row in ("put 5 5 most -1", "put 5 5 most", "put 5 5 5", "put 5 05", "take 5 most -1", "take 5 5"):
            self.assert_refused(desk, NoRow, row)

    def test_one_sign_more(self):
        desk = Desk(SMALL)
        for row in ("rows", "disk", "counts", "excess", "over"):
            for number in list(range(32, 127)) + [9, 10]:
                self.assertRaises(NoRow, desk.say, row + chr(number))
                self.assertRaises(NoRow, desk.say, chr(number) + row)

    def test_no_key(self):
        for row in ("take 5", "take 9", "take 5 most 0", "take 5 most 1", "take -1 most 7", "take " + GREATEST):
            self.assert_refused(self.desk(), NoKey, row)
            self.assert_refused(Desk(SMALL), NoKey, row)

    def test_full(self):
        for row in ("put 5 5", "put 9 9", "put 5 5 most 0", "put 0 0 most 1", "put -1 7 most 7", f"put {GREATEST} 0"):
            self.assert_refused(self.desk(), Full, row)

    def test_load_of_no_text_of_a_disk(self):
        desk = self.desk()
        for text in (
            "", " ", "-", "x", ". / .", ". / . / 0", "0,0", ". / . / 0,0 ", " . / . / 0,0", ". / . / 0,0\n", "\n", "\t",
            " " + self.DISK, self.DISK + " ", self.DISK + " / 0,0", self.DISK.replace("2,2", "2"),
            self.DISK.replace("2,2", "2,02"), self.DISK.replace(" / ", "/"), self.DISK.replace(" / ", " "), "load",
            self.DISK.replace("1,1 .", "1,1  ."), "rows", "2,2 1,1 / x / 0,0", "0,0 / . / .", self.DISK + " most 1",
        ):
            self.assert_refused(desk, NoText, "load " + text)

    def test_load_of_a_disk_that_is_not_sound(self):
        desk = self.desk()
        empty = ". . . . . ."
        for text in (
            ". / . / 0,0", ". . . / . . . / 0,0", f"{empty} . / {empty} / 0,0", f"{empty} / {empty} . / 0,0",
            f"{empty} / {empty} / 2,0", f"{empty} / {empty} / 0,2", f"{empty} / {empty} / -1,0",
            f"{empty} / {empty} / 0,-1", f"{empty} / {empty} / {GREAT},0", f"2,2 1,1 . . . . / {empty} / 0,0",
            f"1,1 1,2 . . . . / {empty} / 0,0", f"1,1 1,1 1,1 . . . / {empty} / 0,0",
            f"1,1 1,1 2,2 2,2 . . / {empty} / 0,1", f"1,1 2,2 3,3 4,4 5,5 . / {empty} / 0,1",
            f"{empty} / 2,2 . 1,1 . . . / 1,0", f"{empty} / . . 2,2 . . 1,1 / 1,1",
        ):
            self.assert_refused(desk, BadDisk, "load " + text)

    def test_the_bounds_stay_behind_a_refused_load(self):
        desk = Desk(SMALL)
        self.assertRaises(BadDisk, desk.say, "load . . / . . / 0,0")
        self.assertEqual(desk.say("load . . . . . . / . . . . . . / 1,1"), "ok")
        self.assertRaises(BadDisk, desk.say, "load . . / . . / 0,0")
        self.assertEqual(desk.say("disk"), ". . . . . . / . . . . . . / 1,1")


if __name__ == "__main__":
    unittest.main()
