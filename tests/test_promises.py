"""What point 7 promises of the way "true", gone through over many small lives."""

import random
import unittest
from itertools import product

from hushdrawers.houses import coin_count
from hushdrawers.lives import is_life, upper
from hushdrawers.runs import found_later, looks, places, read, waiting
from tests.model import told

WAYS = ("true", "free", "idle", "kept", "need", "lower")


def small_moments(house):
    """Every moment with one deed at most, with content 0."""
    deeds = product(range(house[2]), range(house[3]))
    return [(), *(((drawer, page, 0),) for drawer, page in deeds)]


def small_lives(house, sizes):
    """Every life of small stories whose sessions have so many moments."""
    sessions = []
    for size in sizes:
        stories = list(product(small_moments(house), repeat=size))
        sessions.append([
            session for session in product(range(house[2]), stories)
            if all(deed[0] <= session[0] for moment in session[1] for deed in moment)
        ])
    return product(*sessions)


def rows_of_coins(house, life):
    many = sum(len(story) for _, story in life)
    return product(range(coin_count(house)), repeat=many)


def is_parted(house, way, life, coins, drawer):
    above = upper(house, life, drawer)
    return looks(house, way, life, coins, drawer) != looks(house, way, above, coins, drawer)


def random_life(dice, house, deeds):
    sessions = []
    for _ in range(dice.randint(1, 4)):
        deepest = dice.randrange(house[2])
        sessions.append((deepest, tuple(
            tuple((dice.randint(0, deepest), dice.randrange(house[3]), dice.randint(0, 9))
                  for _ in range(dice.randint(0, deeds)))
            for _ in range(dice.randint(0, 6)))))
    return tuple(sessions)


def random_house(dice):
    cells = dice.randint(2, 7)
    return (cells, dice.randint(1, cells), dice.randint(1, 4), dice.randint(1, 3),
            dice.randint(1, 3))


def random_coins(dice, house, life):
    many = sum(len(story) for _, story in life)
    return tuple(dice.randrange(coin_count(house)) for _ in range(many))


class Hidden(unittest.TestCase):
    """What the keys from 0 to a drawer show is the same as in upper of the life."""

    def check_all(self, house, sizes):
        for life in small_lives(house, sizes):
            for coins in rows_of_coins(house, life):
                for drawer in range(house[2]):
                    self.assertFalse(is_parted(house, "true", life, coins, drawer), (life, coins))

    def test_one_session(self):
        self.check_all((2, 1, 2, 1, 1), (3,))
        self.check_all((2, 1, 2, 1, 2), (3,))
        self.check_all((3, 2, 2, 1, 1), (3,))
        self.check_all((3, 1, 2, 2, 1), (2,))
        self.check_all((2, 2, 2, 2, 2), (3,))
        self.check_all((2, 1, 3, 1, 1), (3,))

    def test_two_sessions(self):
        self.check_all((2, 1, 2, 1, 1), (2, 1))
        self.check_all((2, 1, 2, 1, 1), (1, 2))
        self.check_all((3, 2, 2, 1, 2), (1, 1))
        self.check_all((2, 1, 3, 1, 1), (1, 1))

    def test_three_sessions(self):
        self.check_all((2, 1, 2, 1, 1), (1, 1, 1))

    def test_greater_lives(self):
        dice = random.Random(7)
        for _ in range(400):
            house = random_house(dice)
            life = random_life(dice, house, 6)
            coins = random_coins(dice, house, life)
            self.assertTrue(is_life(house, life))
            for drawer in range(house[2]):
                self.assertFalse(is_parted(house, "true", life, coins, drawer), (house, life, coins))

    def test_the_faulty_ways_give_themselves_away(self):
        house = (2, 1, 2, 1, 1)
        for way in WAYS[1:]:
            lives = list(small_lives(house, (2,)))
            found = [
                coins for life in lives for coins in rows_of_coins(house, life)
                if is_parted(house, way, life, coins, 0)
            ]
            self.assertTrue(found, way)


class ReadAsPut(unittest.TestCase):
    """With all keys at work, and nothing waiting at an end, pages are read as put last."""

    def check(self, house, life, coins):
        """Whether nothing waits when a session ends, and then that all is read as it was put."""
        ends = []
        for many in range(1, len(life) + 1):
            part = life[:many]
            done = sum(len(story) for _, story in part)
            for drawer in range(house[2]):
                ends.append(waiting(house, "true", part, coins[:done], drawer))
        if any(ends):
            return False
        last = {}
        for _, story in life:
            for moment in story:
                for drawer, page, content in moment:
                    version, _ = last.get((drawer, page), (0, None))
                    last[drawer, page] = (version + 1, content)
        for drawer, page in product(range(house[2]), range(house[3])):
            expected = last.get((drawer, page))
            self.assertEqual(read(house, "true", life, coins, drawer, page), expected)
            self.assertEqual(found_later(house, "true", life, coins, drawer, page), expected)
        return True

    def test_small_lives(self):
        house = (3, 2, 2, 1, 1)
        checked = 0
        for sizes in ((3,), (2, 1), (1, 1, 1)):
            for life in small_lives(house, sizes):
                if all(deepest == 1 for deepest, _ in life):
                    for coins in rows_of_coins(house, life):
                        checked += self.check(house, life, coins)
        self.assertGreater(checked, 1000)

    def test_greater_lives(self):
        dice = random.Random(11)
        checked = 0
        for _ in range(2000):
            house = random_house(dice)
            life = tuple((house[2] - 1, story) for _, story in random_life(dice, house, 3))
            checked += self.check(house, life, random_coins(dice, house, life))
        self.assertGreater(checked, 100)

    def test_what_is_read_while_something_waits(self):
        house, life = (2, 1, 1, 2, 1), ((0, (((0, 0, 4), (0, 1, 5)),)),)
        self.assertFalse(self.check(house, life, (0,)))
        self.assertEqual(read(house, "true", life, (0,), 0, 1), (1, 5))


class Compared(unittest.TestCase):
    """The program tells of any life what the second store tells."""

    def check(self, house, way, life, coins):
        expected = told(house, way, life, coins)
        call = (house, way, life, coins)
        self.assertEqual(
            looks(*call, house[2] - 1), tuple(zip(expected["states"], expected["sets"])), call)
        for (drawer, page), value in expected["read"].items():
            self.assertEqual(read(*call, drawer, page), value, call)
        for drawer, value in expected["waiting"].items():
            self.assertEqual(waiting(*call, drawer), value, call)
        for drawer, value in expected["places"].items():
            self.assertEqual(places(*call, drawer), value, call)
        for (drawer, page), value in expected["later"].items():
            self.assertEqual(found_later(*call, drawer, page), value, call)

    def test_each_way(self):
        for way in WAYS:
            dice = random.Random(13)
            for deeds in (1, 2, 6):
                for _ in range(60):
                    house = random_house(dice)
                    life = random_life(dice, house, deeds)
                    self.check(house, way, life, random_coins(dice, house, life))

    def test_the_longest_life(self):
        house = (12, 5, 4, 6, 3)
        dice = random.Random(17)
        story = tuple(
            tuple((dice.randrange(4), dice.randrange(6), dice.randrange(10)) for _ in range(6))
            for _ in range(20))
        life = ((3, story), (3, story[::-1]), *((3, ()),) * 4)
        coins = tuple(dice.randrange(coin_count(house)) for _ in range(40))
        for way in WAYS:
            self.check(house, way, life, coins)


if __name__ == "__main__":
    unittest.main()
