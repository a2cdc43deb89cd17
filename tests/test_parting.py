import random
import unittest
from itertools import product

from hushdrawers.parting import is_parted, parting, safe_ways
from tests.model import parted, rows_of_coins
from tests.test_promises import random_coins, random_house, random_life
from tests.wrong import STRANGE, check_order, raised

WAYS = ("true", "free", "idle", "kept", "need", "lower")
HOUSE = (3, 1, 2, 1, 1)
LIFE = ((1, (((1, 0, 5),), ((0, 0, 7),), ())),)
COINS = (0, 0, 1)
# Values that are neither True nor False, though some of them are equal to one.
UNSURE = (None, 0, 1, 0.0, 1.0, "", "True", "False", (), (True,), [True], {}, -1, 2)


def all_pairs(house, moments):
    """All small stories of so many moments with all rows of coins, in the document's order."""
    deeds = product(range(house[2]), range(house[3]))
    small = [(), *(((drawer, page, 0),) for drawer, page in deeds)]
    stories = sorted(product(small, repeat=moments))
    return product(stories, sorted(rows_of_coins(house, moments)))


def expected_parting(house, way, drawer, moments, is_often):
    """The first of the shortest partings, found with the second store."""
    for many in range(1, moments + 1):
        for story, coins in all_pairs(house, many):
            if parted(house, way, ((house[2] - 1, story),), coins, drawer, is_often):
                return story, coins
    return None


class Examples(unittest.TestCase):
    def test_example(self):
        house, life = (3, 1, 2, 1, 1), ((1, (((1, 0, 5),), ((0, 0, 7),), ())),)
        told = [
            is_parted(house, "free", life, (0, 0, 1), 0, True),
            is_parted(house, "true", life, (0, 0, 1), 0, True),
            parting((2, 1, 2, 1, 1), "idle", 0, 1, True),
            parting((2, 1, 2, 1, 1), "true", 0, 2, True),
            safe_ways((2, 1, 2, 1, 1), 0, 1, True),
        ]
        self.assertEqual(
            told, [True, False, ((((1, 0, 0),),), (0,)), None, ("true", "free", "kept", "lower")])


class IsParted(unittest.TestCase):
    def test_free_shows_a_page_beneath(self):
        # The upper page can't take cell 0 while the one beneath is live there.
        life = ((1, (((1, 0, 5),), ((0, 0, 7),))),)
        for is_often in (True, False):
            self.assertIs(is_parted(HOUSE, "free", life, (0, 0), 0, is_often), True)
            self.assertIs(is_parted(HOUSE, "free", life, (0, 1), 0, is_often), False)
            self.assertIs(is_parted(HOUSE, "free", life, (0, 0), 1, is_often), False)

    def test_idle_shows_a_deed_beneath_to_those_who_look_often_alone(self):
        life = ((1, (((1, 0, 5),),)),)
        self.assertIs(is_parted(HOUSE, "idle", life, (0,), 0, True), True)
        self.assertIs(is_parted(HOUSE, "idle", life, (0,), 0, False), False)

    def test_a_look_at_the_end_does_not_tell_what_was_there_before(self):
        # In the way "free" the upper page is late by a moment.
        life = ((1, (((1, 0, 5),), ((0, 0, 7),), ())),)
        self.assertIs(is_parted(HOUSE, "free", life, (0, 0, 1), 0, False), True)
        late = ((1, (((1, 0, 5),), ((0, 0, 7),), ((0, 0, 8),), ())),)
        self.assertIs(is_parted((2, 1, 2, 1, 1), "free", late, (0, 0, 1, 0), 0, True), True)
        self.assertIs(is_parted((2, 1, 2, 1, 1), "free", late, (0, 0, 1, 0), 0, False), False)

    def test_a_life_without_moments(self):
        for way, drawer, is_often in product(WAYS, (0, 1), (True, False)):
            life = ((1, ()), (0, ()), (1, ()))
            self.assertIs(is_parted(HOUSE, way, life, (), drawer, is_often), False)

    def test_nothing_is_beneath_the_last_drawer(self):
        dice = random.Random(3)
        for way in WAYS:
            for _ in range(20):
                house = random_house(dice)
                life = random_life(dice, house, 4)
                coins = random_coins(dice, house, life)
                for is_often in (True, False):
                    last = house[2] - 1
                    self.assertIs(is_parted(house, way, life, coins, last, is_often), False)

    def test_compared_with_the_second_store(self):
        dice = random.Random(5)
        found = {(way, is_often): set() for way in WAYS for is_often in (True, False)}
        for way, is_often in found:
            for _ in range(80):
                house = random_house(dice)
                life = random_life(dice, house, 3)
                coins = random_coins(dice, house, life)
                for drawer in range(house[2]):
                    call = (house, way, life, coins, drawer, is_often)
                    told = is_parted(*call)
                    self.assertIs(told, parted(*call), call)
                    found[way, is_often].add(told)
        for (way, is_often), told in found.items():
            self.assertEqual(told, {False} if way == "true" else {True, False}, (way, is_often))


class Parting(unittest.TestCase):
    def check(self, house, moments):
        for way, drawer, is_often in product(WAYS, range(house[2]), (True, False)):
            call = (house, way, drawer, moments, is_often)
            self.assertEqual(parting(*call), expected_parting(*call), call)

    def test_compared_with_the_second_store(self):
        self.check((2, 1, 2, 1, 1), 1)
        self.check((2, 1, 2, 1, 1), 3)
        self.check((3, 2, 2, 1, 1), 2)
        self.check((3, 1, 2, 2, 1), 2)
        self.check((2, 1, 3, 1, 2), 2)
        self.check((2, 2, 2, 1, 1), 4)
        self.check((2, 2, 2, 2, 2), 2)
        self.check((3, 2, 1, 2, 2), 2)

    def test_the_first_of_the_shortest(self):
        house = (2, 1, 2, 1, 1)
        # One moment is enough often; two would be ahead of it in ascending order.
        self.assertEqual(parting(house, "idle", 0, 3, True), ((((1, 0, 0),),), (0,)))
        self.assertEqual(parting(house, "need", 0, 3, True), ((((1, 0, 0),),), (0,)))
        self.assertLess(((), ((1, 0, 0),)), (((1, 0, 0),),))
        # Two moments are needed here, the deed beneath first or last; the first story comes.
        self.assertEqual(
            parting(house, "free", 0, 3, True), ((((1, 0, 0),), ((0, 0, 0),)), (0, 0)))
        self.assertEqual(
            parting(house, "lower", 0, 3, True), ((((0, 0, 0),), ((1, 0, 0),)), (0, 0)))

    def test_once_at_the_end(self):
        house = (2, 1, 2, 1, 1)
        self.assertEqual(parting(house, "free", 0, 2, False), parting(house, "free", 0, 2, True))
        # With the page beneath, the elder version in cell 0 is struck; without it, it stays.
        late = ((((0, 0, 0),), ((0, 0, 0),), ((1, 0, 0),)), (0, 1, 0))
        self.assertIsNone(parting(house, "idle", 0, 2, False))
        self.assertEqual(parting(house, "idle", 0, 3, False), late)
        self.assertIsNone(parting(house, "need", 0, 2, False))
        self.assertEqual(parting(house, "need", 0, 3, False), late)

    def test_at_least_one_moment(self):
        for way, is_often in product(WAYS, (True, False)):
            self.assertIsNone(parting(HOUSE, way, 0, 0, is_often))
            self.assertIsNone(parting((12, 6, 4, 6, 3), way, 0, 0, is_often))

    def test_the_most_moments(self):
        self.assertIsNone(parting((2, 1, 2, 1, 1), "true", 0, 4, True))
        self.assertIsNone(parting((2, 2, 2, 2, 2), "true", 0, 4, False))


class SafeWays(unittest.TestCase):
    def test_compared_with_the_second_store(self):
        for house, moments in (
            ((2, 1, 2, 1, 1), 0), ((2, 1, 2, 1, 1), 1), ((2, 1, 2, 1, 1), 2), ((3, 2, 2, 1, 1), 2),
            ((2, 1, 2, 1, 2), 3), ((2, 2, 2, 1, 1), 3), ((2, 1, 1, 1, 1), 2), ((2, 1, 3, 1, 1), 2),
        ):
            for drawer, is_often in product(range(house[2]), (True, False)):
                call = (drawer, moments, is_often)
                self.assertEqual(safe_ways(house, *call), tuple(
                    way for way in WAYS if expected_parting(house, way, *call) is None), call)

    def test_all_are_safe_where_nothing_is_beneath_and_where_nothing_is_done(self):
        self.assertEqual(safe_ways((2, 1, 2, 1, 1), 1, 2, True), WAYS)
        self.assertEqual(safe_ways((2, 1, 1, 1, 1), 0, 2, True), WAYS)
        self.assertEqual(safe_ways((2, 1, 2, 1, 1), 0, 0, True), WAYS)

    def test_in_the_long_run_the_true_way_alone_is_safe(self):
        self.assertEqual(safe_ways((2, 1, 2, 1, 1), 0, 4, True), ("true",))
        self.assertEqual(safe_ways((3, 2, 2, 1, 2), 0, 3, True), ("true",))


class TooManyToTry(unittest.TestCase):
    def check(self, house, moments, is_many):
        expected = ("TooMany", 20000) if is_many else "returned"
        told = raised(parting, house, "lower", house[2] - 1, moments, True)
        safe = raised(safe_ways, house, house[2] - 1, moments, False)
        if is_many:
            self.assertEqual([told, safe], [expected] * 2, (house, moments))
        else:
            self.assertEqual([told[0], safe[0]], [expected] * 2, (house, moments))

    def test_the_limits(self):
        self.check((12, 6, 4, 6, 1), 0, False)
        self.check((12, 6, 4, 6, 1), 1, True)       # 924 * 25 = 23100
        self.check((12, 6, 4, 6, 1), 4, True)
        self.check((4, 1, 1, 6, 1), 2, False)       # 28 * 28 = 784
        self.check((4, 1, 1, 6, 1), 3, True)        # 28 ** 3 = 21952
        self.check((3, 1, 1, 3, 1), 4, True)        # 12 ** 4 = 20736

    def test_just_beneath_the_limits(self):
        self.assertIsNotNone(parting((12, 5, 4, 6, 1), "idle", 0, 1, True))     # 792 * 25 = 19800
        self.assertIsNotNone(parting((12, 6, 4, 5, 1), "idle", 0, 1, True))     # 924 * 21 = 19404
        self.assertIsNotNone(parting((3, 1, 2, 4, 1), "idle", 0, 3, True))      # 27 ** 3 = 19683
        self.assertIsNotNone(parting((2, 2, 2, 5, 1), "idle", 0, 4, True))      # 11 ** 4 = 14641

    def test_copies_do_not_count(self):
        self.assertIsNotNone(parting((3, 1, 2, 4, 3), "idle", 0, 3, True))

    def test_behind_other_errors(self):
        house = (12, 6, 4, 6, 1)
        self.assertEqual(raised(parting, house, "x", 4, 9, 0), ("BadHouse", "way"))
        self.assertEqual(raised(parting, house, "true", 4, 9, 0), ("BadDrawer",))
        self.assertEqual(raised(parting, house, "true", 3, 5, 0), ("BadNumber",))
        self.assertEqual(raised(parting, house, "true", 3, 4, 0), ("BadNumber",))
        self.assertEqual(raised(parting, house, "true", 3, 4, False), ("TooMany", 20000))
        self.assertEqual(raised(safe_ways, house, 4, 9, 0), ("BadDrawer",))
        self.assertEqual(raised(safe_ways, house, 3, 4, 0), ("BadNumber",))
        self.assertEqual(raised(safe_ways, house, 3, 4, True), ("TooMany", 20000))


class WrongArguments(unittest.TestCase):
    def test_neither_true_nor_false(self):
        for value in UNSURE:
            told = [
                raised(is_parted, HOUSE, "true", LIFE, COINS, 0, value),
                raised(parting, HOUSE, "true", 0, 1, value), raised(safe_ways, HOUSE, 0, 1, value),
            ]
            self.assertEqual(told, [("BadNumber",)] * 3, value)

    def test_moments(self):
        for value in (*STRANGE, 5, 6, 99, "1", (1,), 1.5):
            self.assertEqual(raised(parting, HOUSE, "true", 0, value, True), ("BadNumber",), value)
            self.assertEqual(raised(safe_ways, HOUSE, 0, value, True), ("BadNumber",), value)

    def test_drawers(self):
        for value in (*STRANGE, 2, "0", (0,)):
            told = [
                raised(is_parted, HOUSE, "true", LIFE, COINS, value, True),
                raised(parting, HOUSE, "true", value, 1, True),
                raised(safe_ways, HOUSE, value, 1, True),
            ]
            self.assertEqual(told, [("BadDrawer",)] * 3, value)

    def test_ways(self):
        for value in (*STRANGE, "True", "true ", b"true", ["true"], ("true",)):
            told = [
                raised(is_parted, HOUSE, value, LIFE, COINS, 0, True),
                raised(parting, HOUSE, value, 0, 1, True),
            ]
            self.assertEqual(told, [("BadHouse", "way")] * 2, value)

    def test_houses(self):
        for house, word in (
            (None, "form"), ([3, 1, 2, 1, 1], "form"), ("31211", "form"), ((13, 1, 2, 1, 1), "cells"),
            ((3, True, 2, 1, 1), "sealed"), ((3, 1, 0, 1, 1), "drawers"), ((3, 1, 2, 7, 1), "pages"),
            ((3, 1, 2, 1, 4), "copies"),
        ):
            for function, many in ((is_parted, 5), (parting, 4), (safe_ways, 3)):
                # All the other arguments are wrong, too.
                self.assertEqual(
                    raised(function, house, *[None] * many), ("BadHouse", word), function)

    def test_the_order_of_errors(self):
        check_order(
            self, lambda house, life, way, *more: is_parted(house, way, life, *more),
            (HOUSE, LIFE, "true", COINS, 0, True), [
                (0, [3, 1, 2, 1, 1], ("BadHouse", "form")), (1, [LIFE[0]], ("BadLife", None)),
                (1, (LIFE[0], (2, ())), ("BadLife", 1)), (2, None, ("BadHouse", "way")),
                (3, [0, 0, 1], ("BadCoins", None)), (3, (0, 0, 3), ("BadCoins", 2)),
                (4, True, ("BadDrawer",)), (5, 1, ("BadNumber",)),
            ])
        check_order(self, parting, (HOUSE, "true", 0, 1, True), [
            (0, (3, 1, 2, 1, 4), ("BadHouse", "copies")), (1, "x", ("BadHouse", "way")),
            (2, 2, ("BadDrawer",)), (3, 5, ("BadNumber",)), (4, 0, ("BadNumber",)),
        ])
        check_order(self, safe_ways, (HOUSE, 0, 1, True), [
            (0, (3, 0, 2, 1, 1), ("BadHouse", "sealed")), (1, 2, ("BadDrawer",)),
            (2, True, ("BadNumber",)), (3, None, ("BadNumber",)),
        ])


if __name__ == "__main__":
    unittest.main()
