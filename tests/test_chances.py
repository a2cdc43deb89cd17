import random
import unittest
from collections import Counter
from fractions import Fraction
from itertools import combinations, product
from math import comb

from hushdrawers.chances import (
    best_guess, least_cells, lives_on, loss_chance, more_wait, row_count, view_count,
    waiting_counts)
from tests.model import rows_of_coins, told, viewed
from tests.wrong import STRANGE, check_order, raised

WAYS = ("true", "free", "idle", "kept", "need", "lower")
HOUSE = (2, 1, 2, 1, 1)
STORY = (((1, 0, 5),), ((0, 0, 7),))
LIFE = ((1, STORY),)
PLAIN = ((0, ((), ((0, 0, 7),))),)
# 924 rows at each moment: two moments have more rows than can be gone through.
GREAT = (12, 6, 2, 1, 1)
NO_NUMBERS = (*STRANGE, "1", (0,), [1], 1.5)


def ratio(value):
    value = Fraction(value)
    return (value.numerator, value.denominator)


def moments_of(life):
    return sum(len(story) for _, story in life)


def view_table(house, way, life, drawer, times):
    return Counter(
        viewed(house, way, life, coins, drawer, times)
        for coins in rows_of_coins(house, moments_of(life)))


def expected_guess(house, way, one, other, drawer, times):
    first = view_table(house, way, one, drawer, times)
    second = view_table(house, way, other, drawer, times)
    right = sum((first | second).values())
    return ratio(Fraction(right, 2 * sum(first.values())))


def expected_waits(house, way, story, drawer):
    life = ((house[2] - 1, story),)
    table = Counter(
        len(told(house, way, life, coins)["waiting"][drawer])
        for coins in rows_of_coins(house, len(story)))
    return tuple(table[many] for many in range(max(table) + 1))


def expected_loss(house, life, drawer, page):
    deeds = [deed for _, story in life for moment in story for deed in moment]
    contents = [None, *(content for *place, content in deeds if place == [drawer, page])]
    lost = rows = 0
    for coins in rows_of_coins(house, moments_of(life)):
        later = told(house, "true", life, coins)["later"][drawer, page]
        lost += (later and later[1]) != contents[-1]
        rows += 1
    return ratio(Fraction(lost, rows))


def random_story(dice, house, moments, deepest, deeds=2):
    return tuple(
        tuple((dice.randint(0, deepest), dice.randrange(house[3]), dice.randrange(2))
              for _ in range(dice.randint(0, deeds)))
        for _ in range(moments))


def random_life(dice, house, sizes):
    life = []
    for size in sizes:
        deepest = dice.randrange(house[2])
        life.append((deepest, random_story(dice, house, size, deepest)))
    return tuple(life)


def small_house(dice):
    cells = dice.randint(2, 4)
    return (cells, dice.randint(1, cells), dice.randint(1, 3), dice.randint(1, 2),
            dice.randint(1, 3))


class Examples(unittest.TestCase):
    def test_example(self):
        house, story = (2, 1, 2, 1, 1), (((1, 0, 5),), ((0, 0, 7),))
        life, plain = ((1, story),), ((0, ((), ((0, 0, 7),))),)
        found = [
            row_count(house, life), view_count(house, "true", life, 0, (0, 1, 2)),
            best_guess(house, "true", life, plain, 0, (0, 1, 2)),
            best_guess(house, "free", life, plain, 0, (0, 1, 2)),
            waiting_counts(house, "true", story, 1), more_wait(house, "true", story, 1, 0),
            loss_chance(house, life, 1, 0), lives_on((3, 1, 1, 1, 1), 1, 2),
            least_cells(house, story, 1, 0, 1, 3),
        ]
        self.assertEqual(
            found, [4, 4, (1, 2), (3, 4), (2, 2), (1, 2), (1, 2), (4, 9), 3])


class Rows(unittest.TestCase):
    def test_row_count(self):
        for house, life, expected in (
            (HOUSE, ((0, ()),), 1), (HOUSE, ((0, ()), (1, ()), (0, ())), 1),
            ((5, 2, 1, 1, 1), ((0, ((),)),), 10), ((5, 2, 1, 1, 1), ((0, ((), ())),), 100),
            ((5, 2, 1, 1, 1), ((0, ((),)), (0, ()), (0, ((), ()))), 1000),
            ((4, 4, 1, 1, 1), ((0, ((),) * 40),), 1), (HOUSE, LIFE, 4),
            (HOUSE, ((0, ((),) * 20), (1, ((),) * 20)), 2 ** 40),
            (GREAT, ((0, ((),) * 40),), 924 ** 40),
        ):
            self.assertEqual(row_count(house, life), expected)


class Views(unittest.TestCase):
    def test_compared_with_the_second_store(self):
        dice = random.Random(19)
        for way in WAYS:
            for sizes in ((0,), (1,), (3,), (1, 2), (0, 2, 1)):
                for _ in range(4):
                    house = small_house(dice)
                    one, other = random_life(dice, house, sizes), random_life(dice, house, sizes)
                    many = moments_of(one)
                    times = tuple(sorted(dice.sample(range(many + 1), dice.randint(1, many + 1))))
                    drawer = dice.randrange(house[2])
                    self.assertEqual(
                        view_count(house, way, one, drawer, times),
                        len(view_table(house, way, one, drawer, times)))
                    call = (house, way, one, other, drawer, times)
                    self.assertEqual(best_guess(*call), expected_guess(*call), call)

    def test_without_moments_there_is_one_view(self):
        for way in WAYS:
            self.assertEqual(view_count(HOUSE, way, ((1, ()),), 0, (0,)), 1)
            self.assertEqual(best_guess(HOUSE, way, ((1, ()),), ((0, ()),) * 3, 0, (0,)), (1, 2))

    def test_sealed_cells_are_a_part_of_the_view(self):
        # Nothing is put: the looks tell nothing but the sets that were drawn.
        bare = ((0, ((), ())),)
        house = (4, 2, 1, 1, 1)
        counts = [view_count(house, "true", bare, 0, times) for times in (
            (0, 1, 2), (1, 2), (0, 1), (0, 2), (2,), (0,))]
        # From 6 sets of two cells twice: 6 unions of 2 cells, 4 of 3 cells, 1 of 4 cells.
        self.assertEqual(counts, [36, 6, 6, 11, 1, 1])
        self.assertEqual(view_count(house, "idle", bare, 0, (0, 1, 2)), 1)

    def test_lives_that_can_be_told_apart_for_sure(self):
        one, other = ((0, (((0, 0, 1),),)),), ((0, (((0, 0, 2),),)),)
        self.assertEqual(best_guess(HOUSE, "true", one, other, 0, (1,)), (1, 1))
        self.assertEqual(best_guess(HOUSE, "true", one, other, 0, (0,)), (1, 2))
        self.assertEqual(best_guess(HOUSE, "true", one, one, 0, (0, 1)), (1, 2))

    def test_views_of_one_life_alone_count_too(self):
        # In the way "idle" the second life is seen to seal nothing.
        one, other = ((0, (((0, 0, 1),), ())),), ((0, ((), ((0, 0, 1),))),)
        for call in ((one, other), (other, one)):
            told_apart = best_guess(HOUSE, "idle", *call, 0, (0, 1, 2))
            self.assertEqual(told_apart, (1, 1))
        one, other = ((0, (((0, 0, 1),), ((0, 0, 1),))),), ((0, ((), ((0, 0, 1),))),)
        for way in WAYS:
            for times in ((2,), (1,), (1, 2), (0, 2)):
                forth = best_guess(HOUSE, way, one, other, 0, times)
                self.assertEqual(forth, best_guess(HOUSE, way, other, one, 0, times))
                self.assertEqual(forth, expected_guess(HOUSE, way, one, other, 0, times))

    def test_the_true_way_hides_what_is_beneath(self):
        house = (2, 1, 2, 1, 1)
        life = ((1, (((1, 0, 5),), ((0, 0, 7),))), (1, ((),)))
        bare = ((0, ((), ((0, 0, 7),))), (0, ((),)))
        times = (0, 1, 2, 3)
        for way in WAYS:
            told_apart = best_guess(house, way, life, bare, 0, times)
            self.assertEqual(told_apart, expected_guess(house, way, life, bare, 0, times))
            self.assertEqual(told_apart == (1, 2), way == "true", way)

    def test_sessions_may_be_cut_elsewhere(self):
        one, other = ((0, ((), ())),), ((0, ((),)), (1, ((),)))
        self.assertEqual(best_guess(HOUSE, "true", one, other, 1, (0, 1, 2)), (1, 2))


class Waits(unittest.TestCase):
    def test_compared_with_the_second_store(self):
        dice = random.Random(23)
        for way in WAYS:
            for moments in (0, 1, 2, 3, 3):
                for _ in range(5):
                    house = small_house(dice)
                    story = random_story(dice, house, moments, house[2] - 1, 4)
                    for drawer in range(house[2]):
                        call = (house, way, story, drawer)
                        expected = expected_waits(*call)
                        self.assertEqual(waiting_counts(*call), expected, call)
                        for many in range(5):
                            chance = ratio(Fraction(sum(expected[many + 1:]), sum(expected)))
                            self.assertEqual(more_wait(*call, many), chance, call)

    def test_an_empty_story(self):
        for way in WAYS:
            self.assertEqual(waiting_counts(HOUSE, way, (), 1), (1,))
            self.assertEqual(more_wait(HOUSE, way, (), 1, 0), (0, 1))

    def test_up_to_the_greatest_number_that_comes(self):
        # All of the 6 copies wait but one, whatever the coins are.
        house = (4, 1, 1, 3, 2)
        story = (((0, 0, 1), (0, 1, 1), (0, 2, 1)),)
        self.assertEqual(waiting_counts(house, "true", story, 0), (0, 0, 0, 0, 0, 4))
        chances = [more_wait(house, "true", story, 0, many) for many in (0, 4, 5, 6, 60)]
        self.assertEqual(chances, [(1, 1), (1, 1), (0, 1), (0, 1), (0, 1)])

    def test_all_keys_are_at_work(self):
        # The deeds above take all cells, and what is beneath waits.
        house = (2, 2, 3, 1, 2)
        story = (((2, 0, 1), (1, 0, 1), (0, 0, 1)),)
        counts = [waiting_counts(house, "true", story, drawer) for drawer in range(3)]
        self.assertEqual(counts, [(1,), (0, 0, 1), (0, 0, 1)])
        counts = [waiting_counts(house, "lower", story, drawer) for drawer in range(3)]
        self.assertEqual(counts, [(0, 0, 1), (0, 0, 1), (1,)])

    def test_the_longest_story_where_there_is_one_coin(self):
        house = (3, 3, 2, 2, 2)
        story = (((0, 0, 1), (1, 1, 2)),) * 40
        self.assertEqual(waiting_counts(house, "true", story, 1), expected_waits(
            house, "true", story, 1))
        self.assertEqual(waiting_counts(house, "true", story, 1), (0, 1))


class Losses(unittest.TestCase):
    def test_compared_with_the_second_store(self):
        dice = random.Random(29)
        for sizes in ((0,), (2,), (3,), (1, 1), (2, 1), (1, 0, 2), (0, 1, 1, 1)):
            for _ in range(12):
                house = small_house(dice)
                life = random_life(dice, house, sizes)
                for drawer, page in product(range(house[2]), range(house[3])):
                    call = (house, life, drawer, page)
                    self.assertEqual(loss_chance(*call), expected_loss(*call), call)

    def test_a_page_that_no_deed_puts(self):
        house = (2, 1, 2, 2, 1)
        for drawer, page, expected in ((0, 0, (0, 1)), (0, 1, (0, 1)), (1, 1, (0, 1))):
            self.assertEqual(loss_chance(house, ((1, (((1, 0, 5),),)),), drawer, page), expected)

    def test_an_elder_version_with_the_same_content_is_no_loss(self):
        # The second deed waits behind page 1; a session with all keys finds the first one.
        house = (3, 1, 1, 2, 1)
        # Where the same cell is drawn again, nothing of page 0 is left: one row of three.
        for content, expected in ((4, (1, 3)), (6, (1, 1))):
            life = ((0, (((0, 0, 4),), ((0, 1, 5), (0, 0, content)))),)
            self.assertEqual(loss_chance(house, life, 0, 0), expected)

    def test_the_last_deed_at_one_moment_and_in_elder_sessions(self):
        house = (2, 2, 1, 1, 1)
        life = ((0, (((0, 0, 1), (0, 0, 2)), ())), (0, ((),)))
        self.assertEqual(loss_chance(house, life, 0, 0), (0, 1))
        self.assertEqual(loss_chance(house, ((0, (((0, 0, 1), (0, 0, 2)),)),), 0, 0), (0, 1))

    def test_a_drawer_whose_key_is_not_at_work_is_lost_by_sealing(self):
        # The cell is struck with a chance of 1 / 3 at each of two further moments.
        house = (3, 1, 2, 1, 1)
        life = ((1, (((1, 0, 5),),)), (0, ((), ())))
        self.assertEqual(loss_chance(house, life, 1, 0), (5, 9))

    def test_content_0_is_no_lack_of_content(self):
        house = (2, 1, 2, 1, 1)
        self.assertEqual(loss_chance(house, ((1, (((1, 0, 0), (0, 0, 1)),)),), 1, 0), (1, 1))
        self.assertEqual(loss_chance(house, ((1, (((1, 0, 0),),)),), 1, 0), (0, 1))


class LivesOn(unittest.TestCase):
    def test_all_rows_of_small_houses(self):
        for cells in range(2, 5):
            for sealed in range(1, cells + 1):
                house = (cells, sealed, 1, 1, 1)
                sets = list(combinations(range(cells), sealed))
                for copies, moments in product(range(1, cells + 1), range(4)):
                    rows = list(product(sets, repeat=moments))
                    many = sum(
                        any(all(cell not in lot for lot in row) for cell in range(copies))
                        for row in rows)
                    self.assertEqual(
                        lives_on(house, copies, moments), ratio(Fraction(many, len(rows))))

    def test_one_copy_and_the_greatest_numbers(self):
        self.assertEqual(lives_on((12, 1, 1, 1, 1), 1, 60), ratio(Fraction(11, 12) ** 60))
        self.assertEqual(lives_on((12, 6, 1, 1, 1), 1, 60), (1, 2 ** 60))
        two = 2 * Fraction(1, 2) ** 60 - Fraction(comb(10, 6), 924) ** 60
        self.assertEqual(lives_on((12, 6, 4, 6, 3), 2, 60), ratio(two))

    def test_as_many_copies_as_cells(self):
        # Of 12 cells one is drawn at each moment: 11 moments leave one alone, 12 rarely none.
        self.assertEqual(lives_on((12, 1, 1, 1, 1), 12, 11), (1, 1))
        rows, drawn_all = 12 ** 12, 479001600
        self.assertEqual(
            lives_on((12, 1, 1, 1, 1), 12, 12), ratio(1 - Fraction(drawn_all, rows)))

    def test_no_moments_and_no_cells_left(self):
        for copies in (1, 2, 3):
            self.assertEqual(lives_on((3, 2, 1, 1, 1), copies, 0), (1, 1))
            self.assertEqual(lives_on((3, 3, 1, 1, 1), copies, 0), (1, 1))
            self.assertEqual(lives_on((3, 3, 1, 1, 1), copies, 1), (0, 1))
            self.assertEqual(lives_on((3, 3, 1, 1, 1), copies, 60), (0, 1))

    def test_the_copies_of_the_house_do_not_matter(self):
        self.assertEqual(lives_on((4, 1, 1, 1, 3), 4, 2), lives_on((4, 1, 2, 5, 1), 4, 2))

    def test_wrong_numbers(self):
        house = (3, 1, 1, 1, 1)
        for value in (*NO_NUMBERS, 0, 4, 13):
            self.assertEqual(raised(lives_on, house, value, 1), ("BadNumber",), value)
        for value in (*NO_NUMBERS, 61, 99):
            self.assertEqual(raised(lives_on, house, 1, value), ("BadNumber",), value)
        check_order(self, lives_on, (house, 1, 1), [
            (0, (3, 1, 1, 1, 0), ("BadHouse", "copies")), (1, 4, ("BadNumber",)),
            (2, 61, ("BadNumber",)),
        ])


class LeastCells(unittest.TestCase):
    def expected(self, house, story, drawer, many, top, bottom):
        for cells in range(max(2, house[1]), 13):
            counts = expected_waits((cells, *house[1:]), "true", story, drawer)
            if Fraction(sum(counts[many + 1:]), sum(counts)) <= Fraction(top, bottom):
                return cells
        return None

    def test_compared_with_the_second_store(self):
        dice = random.Random(31)
        results = set()
        for _ in range(80):
            house = (dice.randint(3, 12), dice.randint(1, 2), 2, 1, dice.randint(1, 2))
            # The page beneath is put at first, and what is above drives it off its cells.
            later = random_story(dice, house, 2 if house[1] == 1 else 1, 0, 1)
            call = (house, (((1, 0, 0),), *later), dice.randint(0, 1), dice.randint(0, 1),
                    dice.randint(0, 3), dice.randint(1, 8))
            found = least_cells(*call)
            self.assertEqual(found, self.expected(*call), call)
            results.add(found)
        self.assertGreater(len(results), 4)

    def test_the_cells_of_the_house_do_not_matter(self):
        for cells in (2, 3, 4, 12):
            self.assertEqual(least_cells((cells, 1, 2, 1, 1), STORY, 1, 0, 1, 3), 3)

    def test_a_chance_that_is_just_allowed(self):
        # With n cells the page beneath waits with a chance of 1 / n.
        for bottom in range(2, 13):
            self.assertEqual(least_cells(HOUSE, STORY, 1, 0, 1, bottom), bottom)
            self.assertEqual(least_cells(HOUSE, STORY, 1, 0, 10, 10 * bottom), bottom)
        self.assertEqual(least_cells(HOUSE, STORY, 1, 0, 1, 1), 2)
        self.assertIsNone(least_cells(HOUSE, STORY, 1, 0, 1, 13))
        self.assertIsNone(least_cells(HOUSE, STORY, 1, 0, 0, 1000))
        self.assertEqual(least_cells(HOUSE, STORY, 1, 0, 1000, 1), 2)
        self.assertEqual(least_cells(HOUSE, STORY, 1, 1, 0, 1), 2)

    def test_from_the_sealed_cells_on(self):
        self.assertEqual(least_cells((5, 3, 1, 1, 1), (), 0, 0, 0, 1), 3)
        self.assertEqual(least_cells((12, 12, 1, 1, 1), (), 0, 0, 0, 1), 12)
        self.assertEqual(least_cells((12, 1, 1, 1, 1), (), 0, 0, 0, 1), 2)
        self.assertIsNone(least_cells((12, 12, 1, 6, 3), (
            tuple((0, page, 0) for page in range(6)),), 0, 0, 0, 1))

    def test_too_many_rows_for_those_that_are_come_to_alone(self):
        # 2 ** 5, 3 ** 5, 4 ** 5, 5 ** 5 rows can be gone through, 6 ** 5 can't.
        story = (((1, 0, 5),), (), ((0, 0, 7),), (), ((0, 0, 8),))
        self.assertEqual(expected_waits((5, 1, 2, 1, 1), "true", story, 1), (2400, 725))
        for house in (HOUSE, (12, 1, 2, 1, 1)):
            self.assertEqual(least_cells(house, story, 1, 0, 1, 1), 2)
            self.assertEqual(least_cells(house, story, 1, 0, 725, 1000), 2)
            # With 5 cells the chance is 29 / 125.
            self.assertEqual(least_cells(house, story, 1, 0, 232, 1000), 5)
            self.assertEqual(
                raised(least_cells, house, story, 1, 0, 231, 1000), ("TooMany", 5000))
        self.assertEqual(
            raised(least_cells, (2, 1, 2, 1, 1), ((),) * 13, 1, 0, 1, 1), ("TooMany", 5000))

    def test_wrong_numbers(self):
        for value in (*NO_NUMBERS, 61, 99):
            self.assertEqual(
                raised(least_cells, HOUSE, STORY, 1, value, 1, 3), ("BadNumber",), value)
        for value in (*NO_NUMBERS, 1001):
            self.assertEqual(
                raised(least_cells, HOUSE, STORY, 1, 0, value, 3), ("BadNumber",), value)
        for value in (*NO_NUMBERS, 0, 1001):
            self.assertEqual(
                raised(least_cells, HOUSE, STORY, 1, 0, 1, value), ("BadNumber",), value)
        self.assertEqual(raised(least_cells, HOUSE, STORY, 1, 60, 1000, 1000)[0], "returned")

    def test_the_order_of_errors(self):
        long = ((),) * 40
        check_order(self, least_cells, (HOUSE, STORY, 1, 0, 1, 3), [
            (0, None, ("BadHouse", "form")), (1, ((), None), ("BadStory", 1)),
            (1, ((),) * 41, ("BadStory", None)), (2, 2, ("BadDrawer",)), (3, 61, ("BadNumber",)),
            (4, 1001, ("BadNumber",)), (5, 0, ("BadNumber",)), (1, long, ("TooMany", 5000)),
        ])


class TooManyRows(unittest.TestCase):
    """TooMany comes where rows are gone through, and behind all other errors."""

    def calls(self, house, story):
        life = ((0, story),)
        return (
            (view_count, house, "true", life, 0, (0,)),
            (best_guess, house, "true", life, life, 0, (0,)),
            (waiting_counts, house, "true", story, 0), (more_wait, house, "true", story, 0, 0),
            (loss_chance, house, life, 0, 0),
        )

    def check(self, house, moments, is_many):
        for call in self.calls(house, ((),) * moments):
            found = raised(*call)
            if is_many:
                self.assertEqual(found, ("TooMany", 5000), call[0])
            else:
                self.assertEqual(found[0], "returned", call[0])

    def test_limits(self):
        self.check(HOUSE, 12, False)             # 4096
        self.check(HOUSE, 13, True)              # 8192
        self.check((8, 4, 1, 1, 1), 2, False)    # 4900
        self.check((9, 4, 1, 1, 1), 2, True)     # 15876
        self.check(GREAT, 1, False)
        self.check(GREAT, 2, True)
        self.check((4, 4, 1, 1, 1), 40, False)
        self.check(GREAT, 40, True)

    def test_what_does_not_go_through_rows(self):
        self.assertEqual(row_count(GREAT, ((0, ((),) * 2),)), 924 ** 2)
        self.assertEqual(raised(lives_on, GREAT, 3, 60)[0], "returned")

    def test_behind_all_other_errors(self):
        story = ((),) * 40
        life = ((0, story),)
        for call, error in (
            ((view_count, GREAT, "x", life, 0, (0,)), ("BadHouse", "way")),
            ((view_count, GREAT, "true", life, 2, (0,)), ("BadDrawer",)),
            ((view_count, GREAT, "true", life, 0, (41,)), ("BadTimes",)),
            ((best_guess, GREAT, "true", life, ((0, story), None), 0, (0,)), ("BadLife", 1)),
            ((best_guess, GREAT, "true", life, ((0, story[1:]),), 0, (0,)), ("BadNumber",)),
            ((best_guess, GREAT, "true", life, life, 2, (0,)), ("BadDrawer",)),
            ((best_guess, GREAT, "true", life, life, 0, ()), ("BadTimes",)),
            ((waiting_counts, GREAT, "x", story, 0), ("BadHouse", "way")),
            ((waiting_counts, GREAT, "true", story, 2), ("BadDrawer",)),
            ((more_wait, GREAT, "true", story, 2, 0), ("BadDrawer",)),
            ((loss_chance, GREAT, life, 2, 0), ("BadDrawer",)),
            ((loss_chance, GREAT, life, 0, 1), ("BadPage",)),
        ):
            self.assertEqual(raised(*call), error, call[0])

    def test_a_wrong_many_comes_behind_it(self):
        for many in (61, -1, None, True):
            told_great = raised(more_wait, GREAT, "true", ((),) * 2, 0, many)
            self.assertEqual(told_great, ("TooMany", 5000))
            self.assertEqual(raised(more_wait, GREAT, "true", ((),), 0, many), ("BadNumber",))


class WrongArguments(unittest.TestCase):
    def test_many(self):
        for value in (*NO_NUMBERS, 61, 62):
            self.assertEqual(raised(more_wait, HOUSE, "true", STORY, 1, value), ("BadNumber",))
        self.assertEqual(more_wait(HOUSE, "true", STORY, 1, 60), (0, 1))

    def test_lives_of_unlike_length(self):
        for other in (((0, ((),)),), ((0, ()),), ((0, ((), ())), (0, ((),)))):
            self.assertEqual(
                raised(best_guess, HOUSE, "true", LIFE, other, 0, (0,)), ("BadNumber",))

    def test_ways(self):
        for value in (*STRANGE, "True", "true ", ["true"], b"true"):
            for call in (
                (view_count, HOUSE, value, LIFE, 0, (0,)), (waiting_counts, HOUSE, value, STORY, 1),
                (best_guess, HOUSE, value, LIFE, PLAIN, 0, (0,)),
                (more_wait, HOUSE, value, STORY, 1, 0),
            ):
                self.assertEqual(raised(*call), ("BadHouse", "way"), call)

    def test_drawers_and_pages(self):
        for value in (*STRANGE, 2, "0", (0,)):
            for call in (
                (view_count, HOUSE, "true", LIFE, value, (0,)),
                (best_guess, HOUSE, "true", LIFE, PLAIN, value, (0,)),
                (waiting_counts, HOUSE, "true", STORY, value),
                (more_wait, HOUSE, "true", STORY, value, 0), (loss_chance, HOUSE, LIFE, value, 0),
                (least_cells, HOUSE, STORY, value, 0, 1, 3),
            ):
                self.assertEqual(raised(*call), ("BadDrawer",), call)
            self.assertEqual(raised(loss_chance, HOUSE, LIFE, 1, value), ("BadPage",))
        # A drawer whose key is not at work is a drawer.
        self.assertEqual(raised(loss_chance, HOUSE, PLAIN, 1, 0), ("returned", (0, 1)))
        self.assertEqual(raised(view_count, HOUSE, "true", PLAIN, 1, (0,)), ("returned", 1))

    def test_times(self):
        for value in (*STRANGE[:-2], (), [0], (3,), (1, 0), (0, 0), (True,), (0, None), 0, (-1,)):
            for call in (
                (view_count, HOUSE, "true", LIFE, 0, value),
                (best_guess, HOUSE, "true", LIFE, PLAIN, 0, value),
            ):
                self.assertEqual(raised(*call), ("BadTimes",), call)

    def test_lives_and_stories(self):
        for value in (None, True, "", [], [(0, ())], (), ((0, ()),) * 7, {}):
            for call in (
                (row_count, HOUSE, value), (view_count, HOUSE, "true", value, 0, (0,)),
                (best_guess, HOUSE, "true", value, PLAIN, 0, (0,)),
                (best_guess, HOUSE, "true", PLAIN, value, 0, (0,)), (loss_chance, HOUSE, value, 0, 0),
            ):
                self.assertEqual(raised(*call), ("BadLife", None), call)
        for value, index in (
            (None, None), ("", None), ([], None), (((),) * 41, None), (((), [], None), 1),
            ((((0, 0, 10),),), 0), (((), ((2, 0, 0),)), 1), ((True,), 0),
        ):
            for call in (
                (waiting_counts, HOUSE, "true", value, 0), (more_wait, HOUSE, "true", value, 0, 0),
                (least_cells, HOUSE, value, 0, 0, 1, 3),
            ):
                self.assertEqual(raised(*call), ("BadStory", index), call)

    def test_houses(self):
        for house, word in (
            (None, "form"), ([2, 1, 2, 1, 1], "form"), ((2, 1, 2, 1), "form"), ("21211", "form"),
            ((1, 1, 2, 1, 1), "cells"), ((13, 1, 2, 1, 1), "cells"), ((2, 3, 2, 1, 1), "sealed"),
            ((2, 1, 5, 1, 1), "drawers"), ((2, 1, 2, 0, 1), "pages"), ((2, 1, 2, 1, True), "copies"),
        ):
            for function, many in (
                (row_count, 1), (view_count, 4), (best_guess, 5), (waiting_counts, 3),
                (more_wait, 4), (loss_chance, 3), (lives_on, 2), (least_cells, 5),
            ):
                # All the other arguments are wrong, too.
                self.assertEqual(
                    raised(function, house, *[None] * many), ("BadHouse", word), function)

    def test_the_order_of_errors(self):
        no_house = (0, (2, 1, 2, 7, 1), ("BadHouse", "pages"))
        no_life = (1, (LIFE[0], None), ("BadLife", 1))
        no_way = (2, "x", ("BadHouse", "way"))
        check_order(self, row_count, (HOUSE, LIFE), [no_house, no_life])
        check_order(
            self, lambda house, life, way, *more: view_count(house, way, life, *more),
            (HOUSE, LIFE, "true", 0, (0, 2)), [
                no_house, no_life, no_way, (3, 2, ("BadDrawer",)), (4, (99,), ("BadTimes",)),
                (1, ((0, ((),) * 13),), ("TooMany", 5000)),
            ])
        check_order(
            self,
            lambda house, one, way, drawer, times, other: best_guess(
                house, way, one, other, drawer, times),
            (HOUSE, LIFE, "true", 0, (0, 2), PLAIN), [
                no_house, no_life, no_way, (3, 2, ("BadDrawer",)), (4, (3,), ("BadTimes",)),
                (5, (PLAIN[0], 1), ("BadLife", 1)), (5, ((0, ()),), ("BadNumber",)),
            ])
        for function, more in ((waiting_counts, ()), (more_wait, (0,))):
            check_order(
                self, lambda house, story, way, *rest: function(house, way, story, *rest),
                (HOUSE, STORY, "true", 1, *more), [
                    no_house, (1, ((), 1), ("BadStory", 1)), no_way, (3, 2, ("BadDrawer",)),
                    (1, ((),) * 13, ("TooMany", 5000)),
                    *([(4, 61, ("BadNumber",))] if more else []),
                ])
        check_order(self, loss_chance, (HOUSE, LIFE, 1, 0), [
            no_house, no_life, (2, 2, ("BadDrawer",)), (3, 1, ("BadPage",)),
            (1, ((0, ((),) * 13),), ("TooMany", 5000)),
        ])


if __name__ == "__main__":
    unittest.main()
