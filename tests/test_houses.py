import unittest
from itertools import combinations

from hushdrawers.houses import coin_count, coin_of, drawn, is_house
from tests.wrong import STRANGE, raised

WORDS = ("cells", "sealed", "drawers", "pages", "copies")
LEAST = (2, 1, 1, 1, 1)
MOST = (12, 12, 4, 6, 3)


def with_item(row, at, value):
    return row[:at] + (value,) + row[at + 1:]


class Houses(unittest.TestCase):
    def check_wrong(self, value, word):
        self.assertIs(is_house(value), False, value)
        for call in ((coin_count, value), (drawn, value, None), (coin_of, value, None)):
            self.assertEqual(raised(*call), ("BadHouse", word), value)

    def test_example(self):
        house = (4, 2, 1, 1, 1)
        told = [coin_count(house), drawn(house, 3), coin_of(house, (2, 3)), is_house((4, 5, 1, 1, 1))]
        self.assertEqual(told, [6, (1, 2), 5, False])

    def test_least_and_most(self):
        for house in (LEAST, MOST, (12, 1, 4, 6, 3), (2, 2, 1, 1, 1), (7, 3, 2, 4, 2)):
            self.assertIs(is_house(house), True)

    def test_form(self):
        for value in (*STRANGE, list(LEAST), (2, 1, 1, 1), (2, 1, 1, 1, 1, 1), "21111", 21111):
            self.check_wrong(value, "form")

    def test_numbers_beside_the_limits(self):
        for at, word in enumerate(WORDS):
            self.check_wrong(with_item(LEAST, at, LEAST[at] - 1), word)
            self.check_wrong(with_item(MOST, at, MOST[at] + 1), word)
            self.check_wrong(with_item(MOST, at, -1), word)
            self.check_wrong(with_item(MOST, at, 10 ** 30), word)

    def test_sealed_are_at_most_the_cells(self):
        for cells in range(2, 13):
            self.assertIs(is_house((cells, cells, 1, 1, 1)), True)
            self.check_wrong((cells, cells + 1, 1, 1, 1), "sealed")

    def test_other_kinds_in_the_place_of_integers(self):
        for at, word in enumerate(WORDS):
            for value in (None, True, False, 2.0, 1.0, "2", b"2", [2], (2,), {}):
                self.check_wrong(with_item((2, 2, 2, 2, 2), at, value), word)

    def test_the_first_wrong_thing_is_told(self):
        for many in range(1, 6):
            for places in combinations(range(5), many):
                for wrong in (0, True, None, 99):
                    value = MOST
                    for at in places:
                        value = with_item(value, at, wrong)
                    self.check_wrong(value, WORDS[places[0]])

    def test_sealed_beside_wrong_cells(self):
        self.check_wrong(("x", 1, 1, 1, 1), "cells")
        self.check_wrong((13, 13, 1, 1, 1), "cells")
        self.check_wrong((1, 1, 1, 1, 1), "cells")


class Coins(unittest.TestCase):
    def test_every_coin_there_and_back(self):
        for cells in range(2, 8):
            for sealed in range(1, cells + 1):
                house = (cells, sealed, 1, 1, 1)
                sets = list(combinations(range(cells), sealed))
                self.assertEqual(coin_count(house), len(sets))
                self.assertEqual([drawn(house, coin) for coin in range(len(sets))], sets)
                self.assertEqual([coin_of(house, one) for one in sets], list(range(len(sets))))

    def test_the_greatest_houses(self):
        for sealed in range(1, 13):
            house = (12, sealed, 4, 6, 3)
            sets = list(combinations(range(12), sealed))
            self.assertEqual(coin_count(house), len(sets))
            for coin in (0, len(sets) // 3, len(sets) // 2, len(sets) - 1):
                self.assertEqual(drawn(house, coin), sets[coin])
                self.assertEqual(coin_of(house, sets[coin]), coin)

    def test_some_sets(self):
        house = (5, 3, 1, 1, 1)
        self.assertEqual(drawn(house, 0), (0, 1, 2))
        self.assertEqual(drawn(house, 1), (0, 1, 3))
        self.assertEqual(drawn(house, 9), (2, 3, 4))
        self.assertEqual(drawn((3, 3, 1, 1, 1), 0), (0, 1, 2))

    def test_no_coin(self):
        house = (4, 2, 1, 1, 1)
        for value in (*STRANGE, 6, 7, 10 ** 30, "0", 0.0, (0, 1)):
            self.assertEqual(raised(drawn, house, value), ("BadNumber",), value)

    def test_no_such_set(self):
        house = (4, 2, 1, 1, 1)
        wrong = [
            [0, 1], (0, 1, 2), (0,), (1, 0), (1, 1), (0, 4), (-1, 0), (True, 2), (False, 1),
            (0, True), (0.0, 1), (0, "1"), (0, None), "01", b"01", 0, {0: 1}, {0, 1}, (0, [1]),
        ]
        for value in (*STRANGE, *wrong):
            self.assertEqual(raised(coin_of, house, value), ("BadNumber",), value)

    def test_houses_come_first(self):
        self.assertEqual(raised(drawn, (1, 1, 1, 1, 1), "x"), ("BadHouse", "cells"))
        self.assertEqual(raised(coin_of, (2, 1, 1, 1, 4), "x"), ("BadHouse", "copies"))


if __name__ == "__main__":
    unittest.main()
