import random
import unittest

from hushdrawers.lives import is_life
from hushdrawers.texts import read_life, written
from tests.test_promises import random_house, random_life
from tests.wrong import STRANGE, check_order, raised

HEAD = "house 3 1 2 2 1\n"
HOUSE = (3, 1, 2, 2, 1)
GREATEST = (12, 12, 4, 6, 3)
SIX = " ".join(["3:5=9"] * 6)


class Written(unittest.TestCase):
    def test_example(self):
        house, life = (3, 1, 2, 1, 1), ((1, (((1, 0, 5),), ())), (0, ()))
        self.assertEqual(
            [written(house, life), read_life(written(house, life)) == (house, life)],
            ["house 3 1 2 1 1\nkeys 1\n1:0=5\n-\nkeys 0\n", True])

    def test_lives(self):
        for house, life, expected in (
            (HOUSE, ((0, ()),), HEAD + "keys 0\n"),
            (HOUSE, ((1, ((), ((1, 1, 0), (0, 0, 9), (1, 1, 0)))),),
             HEAD + "keys 1\n-\n1:1=0 0:0=9 1:1=0\n"),
            (HOUSE, ((1, ()), (0, ((), ())), (1, (((0, 1, 4),),))),
             HEAD + "keys 1\nkeys 0\n-\n-\nkeys 1\n0:1=4\n"),
            (GREATEST, ((3, (((3, 5, 9),) * 6,) * 40),) + ((0, ()),) * 5,
             "house 12 12 4 6 3\nkeys 3\n" + (SIX + "\n") * 40 + "keys 0\n" * 5),
        ):
            self.assertEqual(written(house, life), expected)
            self.assertEqual(read_life(expected), (house, life))

    def test_forth_and_back(self):
        dice = random.Random(37)
        for _ in range(300):
            house = random_house(dice)
            life = random_life(dice, house, 6)
            text = written(house, life)
            self.assertEqual(read_life(text), (house, life))
            moments = sum(len(story) for _, story in life)
            self.assertEqual(text.count("\n"), 1 + len(life) + moments)

    def test_errors(self):
        check_order(self, written, (HOUSE, ((0, ()),)), [
            (0, (3, 4, 2, 2, 1), ("BadHouse", "sealed")), (0, list(HOUSE), ("BadHouse", "form")),
            (1, ((0, ()), (2, ())), ("BadLife", 1)), (1, [(0, ())], ("BadLife", None)),
            (1, (), ("BadLife", None)),
        ])
        for life in (None, True, "", ((0, ((),) * 41),), ((0, (((1, 0, 0),),)),)):
            self.assertEqual(raised(written, HOUSE, life)[0], "BadLife")


class ReadLife(unittest.TestCase):
    def check_wrong(self, text, line):
        self.assertEqual(raised(read_life, text), ("BadText", line), text)

    def test_no_string_and_the_empty_text(self):
        for value in (*STRANGE[:4], *STRANGE[6:], b"house 3 1 2 1 1\nkeys 0\n", [HEAD], (HEAD,)):
            self.check_wrong(value, 0)
        self.check_wrong("", 0)

    def test_the_last_line_without_a_newline(self):
        self.check_wrong("house", 0)
        self.check_wrong(HEAD[:-1], 0)
        self.check_wrong(HEAD + "keys 0", 1)
        self.check_wrong(HEAD + "keys 0\n-\n0:0=1", 3)
        self.check_wrong(HEAD + "keys 0\n ", 2)
        # It comes ahead of all other faults.
        self.check_wrong("x\nx\nx", 2)
        self.check_wrong("\n\n-", 2)
        self.check_wrong(HEAD + "x\nkeys 0", 2)
        self.check_wrong(HEAD + "keys 0\n" * 7 + "-", 8)

    def test_the_first_line(self):
        for line in (
            "", " ", "house", "house ", "keys 0", "-", "3 1 2 2 1", "house 3 1 2 2", "House 3 1 2 2 1",
            "house 3 1 2 2 1 1", "house  3 1 2 2 1", "house 3 1 2  2 1", " house 3 1 2 2 1",
            "house 3 1 2 2 1 ", "house\t3 1 2 2 1", "house 3 1 2 2 1\r", "house 3,1,2,2,1",
            "house 1 1 2 2 1", "house 13 1 2 2 1", "house 3 4 2 2 1", "house 3 0 2 2 1",
            "house 3 1 0 2 1", "house 3 1 5 2 1", "house 3 1 2 0 1", "house 3 1 2 7 1",
            "house 3 1 2 2 0", "house 3 1 2 2 4", "house 03 1 2 2 1", "house 3 01 2 2 1",
            "house 3 1 2 2 001", "house +3 1 2 2 1", "house -3 1 2 2 1", "house 3.0 1 2 2 1",
            "house 3 1 2 2 \u0661", "house 3 1 2 2 \u00b9", "house 3 1 2 2 1_0", "house x 1 2 2 1",
            "house " + "9" * 5000 + " 1 2 2 1", "house 3 1 2 2 " + "0" * 5000 + "1",
        ):
            self.check_wrong(line + "\n", 0)
            self.check_wrong(line + "\nkeys 0\n", 0)
            self.check_wrong(line + "\nx\n", 0)

    def test_a_wrong_line(self):
        for line in (
            "", " ", "keys", "keys ", "keys 2", "keys 00", "keys 01", "keys -1", "keys +1", "keys 0 ",
            "keys  0", " keys 0", "keys 0 1", "Keys 0", "keys x", "keys \u0661", "keys 0\r", "-keys 0",
            "keys 99999999999999999999", "keys " + "1" * 5000, "house 3 1 2 2 1", "- ", " -", "--",
            "- -", "- 0:0=1", "0:0=1 -", "0:0", "0=1", "0:0=", "0:=1", ":0=1", ":=", "0=0:1", "0:0=1 ",
            " 0:0=1", "0:0=1  0:0=1", "0:0=10", "0:0=01", "0:00=1", "00:0=1", "0:2=1", "2:0=1",
            "0:0=-1", "-0:0=1", "0:0=1=1", "0:0:0=1", "0::0=1", "0:0==1", "0:0=1,0:0=1", "0:0=\u0661",
            "0:0=x", "0: 0=1", "0:0= 1", "0:0=1\t0:0=1", " ".join(["0:0=1"] * 7), "None", "()",
            "0:0=" + "1" * 5000, "0:0=1\r", "0:0=1\x0b", "\x0c", "0:0=1\u2028",
        ):
            self.check_wrong(HEAD + "keys 1\n" + line + "\n", 2)
            self.check_wrong(HEAD + "keys 1\n" + line + "\n\nx\n", 2)
            self.check_wrong(HEAD + line + "\nkeys 1\n", 1)
            self.check_wrong(HEAD + "keys 1\n-\nkeys 0\n0:0=1\n" + line + "\n", 5)

    def test_deeds_beneath_the_session_begun_last(self):
        self.check_wrong(HEAD + "keys 0\n1:0=5\n", 2)
        self.check_wrong(HEAD + "keys 1\n1:0=5\nkeys 0\n0:0=1\n0:0=1 1:0=5\n", 5)
        text = HEAD + "keys 0\n0:0=1\nkeys 1\n0:0=1 1:0=5\n"
        self.assertEqual(read_life(text), (
            HOUSE, ((0, (((0, 0, 1),),)), (1, (((0, 0, 1), (1, 0, 5)),)))))

    def test_a_seventh_session(self):
        self.assertEqual(read_life(HEAD + "keys 1\n" * 6), (HOUSE, ((1, ()),) * 6))
        self.check_wrong(HEAD + "keys 1\n" * 7, 7)
        self.check_wrong(HEAD + "keys 1\n-\n" * 6 + "-\nkeys 0\nx\n", 14)

    def test_a_moment_ahead_of_the_first_session(self):
        self.check_wrong(HEAD + "-\nkeys 0\n", 1)
        self.check_wrong(HEAD + "0:0=1\nkeys 0\n", 1)

    def test_a_forty_first_moment(self):
        self.assertEqual(read_life(HEAD + "keys 1\n" + "-\n" * 40), (HOUSE, ((1, ((),) * 40),)))
        self.check_wrong(HEAD + "keys 1\n" + "-\n" * 41, 42)
        text = HEAD + "keys 1\n" + "-\n" * 20 + "keys 0\n" + "0:0=1\n" * 20
        self.assertTrue(is_life(*read_life(text)))
        self.assertTrue(is_life(*read_life(text + "keys 0\n")))
        self.check_wrong(text + "-\n", 43)
        self.check_wrong(text + "keys 0\n-\nx\n", 44)

    def test_the_first_wrong_line_is_told(self):
        self.check_wrong(HEAD + "keys 1\nx\n1:9=1\nkeys 9\n", 2)
        self.check_wrong(HEAD + "keys 9\nx\n", 1)

    def test_no_session(self):
        self.check_wrong(HEAD, 1)

    def test_six_deeds(self):
        text = "house 12 12 4 6 3\nkeys 3\n" + SIX + "\n"
        self.assertEqual(read_life(text), (GREATEST, ((3, (((3, 5, 9),) * 6,)),)))


if __name__ == "__main__":
    unittest.main()
