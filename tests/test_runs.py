import unittest

from hushdrawers.runs import found_later, looks, places, read, view, waiting
from tests.wrong import STRANGE, check_order, raised

HOUSE = (3, 1, 2, 1, 1)
LIFE = ((1, (((1, 0, 5),), ((0, 0, 7),), ())),)
COINS = (0, 0, 1)

BAD_HOUSE = (0, (3, 1, 2, 0, 1), ("BadHouse", "pages"))
BAD_LIFE = (1, (LIFE[0], None), ("BadLife", 1))
BAD_WAY = (2, "True", ("BadHouse", "way"))
BAD_COINS = (3, (0, 3, 1), ("BadCoins", 1))
BAD_DRAWER = (4, 2, ("BadDrawer",))
# The arguments of each function, with the way behind the life as it is looked at behind it.
FUNCTIONS = (
    (read, (1, 0)), (found_later, (1, 0)), (waiting, (1,)), (places, (1,)),
    (view, (1, (0, 3))), (looks, (1,)),
)


def swapped(function):
    """The function with its life ahead of its way, in the order of their errors."""
    return lambda house, life, way, *more: function(house, way, life, *more)


class Examples(unittest.TestCase):
    def test_example(self):
        told = [
            looks(HOUSE, "true", LIFE, (0, 0, 1), 1), looks(HOUSE, "true", LIFE, (0, 0, 1), 0),
            view(HOUSE, "true", LIFE, (0, 0, 1), 0, (1, 3)),
            waiting(HOUSE, "true", LIFE, (0, 0, 0), 1), read(HOUSE, "true", LIFE, (0, 0, 0), 1, 0),
            found_later(HOUSE, "true", LIFE, (0, 0, 0), 1, 0),
            places(HOUSE, "true", LIFE, (0, 0, 1), 1),
        ]
        none = ((None, None, None), ())
        self.assertEqual(told, [
            (none, (((1, 0, 1, 5), None, None), (0,)), (((0, 0, 1, 7), None, None), (0,)),
             (((0, 0, 1, 7), (1, 0, 1, 5), None), (1,))),
            (none, ((None, None, None), (0,)), (((0, 0, 1, 7), None, None), (0,)),
             (((0, 0, 1, 7), None, None), (1,))),
            (((None, None, None), ()), (((0, 0, 1, 7), None, None), (0, 1))),
            (0,), (1, 5), None, ((0, 1),),
        ])


class Views(unittest.TestCase):
    def test_looks_are_the_view_at_all_times(self):
        for way in ("true", "free", "idle", "kept", "need", "lower"):
            for drawer in (0, 1):
                self.assertEqual(
                    looks(HOUSE, way, LIFE, COINS, drawer),
                    view(HOUSE, way, LIFE, COINS, drawer, (0, 1, 2, 3)))

    def test_a_life_without_moments(self):
        life = ((0, ()), (1, ()))
        self.assertEqual(looks(HOUSE, "true", life, (), 1), (((None, None, None), ()),))
        self.assertEqual(view(HOUSE, "true", life, (), 0, (0,)), (((None, None, None), ()),))

    def test_the_first_look_tells_no_cells(self):
        for at in range(4):
            self.assertEqual(view(HOUSE, "true", LIFE, COINS, 0, (at,))[0][1], ())

    def test_cells_since_the_look_before(self):
        house = (5, 2, 1, 1, 1)
        life = ((0, ((), (), ())), (0, ((), ())))
        coins = (9, 0, 1, 8, 0)
        sets = [cells for _, cells in looks(house, "true", life, coins, 0)]
        self.assertEqual(sets, [(), (3, 4), (0, 1), (0, 2), (2, 4), (0, 1)])
        for times, fresh in (
            ((0, 5), [(), (0, 1, 2, 3, 4)]), ((1, 5), [(), (0, 1, 2, 4)]),
            ((1, 3, 4), [(), (0, 1, 2), (2, 4)]), ((0, 1, 4), [(), (3, 4), (0, 1, 2, 4)]),
            ((2, 3), [(), (0, 2)]), ((5,), [()]),
        ):
            told = view(house, "true", life, coins, 0, times)
            self.assertEqual([cells for _, cells in told], fresh, times)

    def test_cells_that_a_faulty_way_does_not_seal_are_not_told(self):
        story = (((0, 0, 1),), (), ())
        life = ((0, story),)
        self.assertEqual(view(HOUSE, "idle", life, (0, 1, 2), 0, (0, 3))[1][1], (0,))
        self.assertEqual(view(HOUSE, "idle", life, (0, 1, 2), 0, (1, 3))[1][1], ())
        self.assertEqual(view(HOUSE, "kept", life, (0, 0, 2), 0, (1, 2, 3))[1:], (
            (((0, 0, 1, 1), None, None), ()), (((0, 0, 1, 1), None, None), (2,))))
        self.assertEqual(view((3, 2, 1, 1, 1), "need", life, (2, 0, 0), 0, (0, 1, 3)), (
            ((None, None, None), ()), ((None, (0, 0, 1, 1), None), (1,)),
            ((None, (0, 0, 1, 1), None), ())))

    def test_fewer_and_more_keys_than_are_at_work(self):
        house = (3, 1, 3, 1, 1)
        life = ((2, (((2, 0, 1),), ((1, 0, 2),))), (0, (((0, 0, 3),),)))
        coins = (0, 1, 2)
        cells = [view(house, "true", life, coins, drawer, (3,))[0][0] for drawer in range(3)]
        self.assertEqual(cells, [
            (None, None, (0, 0, 1, 3)), (None, (1, 0, 1, 2), (0, 0, 1, 3)),
            ((2, 0, 1, 1), (1, 0, 1, 2), (0, 0, 1, 3)),
        ])

    def test_elder_versions_are_seen(self):
        life = ((0, (((0, 0, 1),), ((0, 0, 2),))),)
        self.assertEqual(
            view(HOUSE, "true", life, (0, 1), 0, (2,)),
            ((((0, 0, 1, 1), (0, 0, 2, 2), None), ()),))


class WrongArguments(unittest.TestCase):
    def test_wrong_ways(self):
        values = (*STRANGE, "True", "TRUE", "true ", " true", "fre", "truefree", b"true", ["true"],
                  ("true",), "way", 0)
        for function, more in FUNCTIONS:
            for way in values:
                told = raised(function, HOUSE, way, LIFE, COINS, *more)
                self.assertEqual(told, ("BadHouse", "way"), (function, way))

    def test_right_ways(self):
        for function, more in FUNCTIONS:
            for way in ("true", "free", "idle", "kept", "need", "lower"):
                self.assertEqual(raised(function, HOUSE, way, LIFE, COINS, *more)[0], "returned")

    def test_wrong_drawers(self):
        for function, more in FUNCTIONS:
            for drawer in (*STRANGE, 2, 3, "0", (0,)):
                told = raised(function, HOUSE, "true", LIFE, COINS, drawer, *more[1:])
                self.assertEqual(told, ("BadDrawer",), (function, drawer))

    def test_drawers_whose_key_is_not_at_work_in_the_last_session(self):
        one = ((1, ()), (0, ()))
        for function, more in FUNCTIONS[:1] + FUNCTIONS[2:4]:
            self.assertEqual(raised(function, HOUSE, "true", one, (), *more), ("BadDrawer",))
            self.assertEqual(raised(function, HOUSE, "true", one, (), 0, *more[1:])[0], "returned")
            self.assertEqual(raised(function, HOUSE, "true", one[::-1], (), *more)[0], "returned")
        for function, more in FUNCTIONS[1:2] + FUNCTIONS[5:]:
            self.assertEqual(raised(function, HOUSE, "true", one, (), *more)[0], "returned")
        self.assertEqual(raised(view, HOUSE, "true", one, (), 1, (0,))[0], "returned")

    def test_a_drawer_whose_key_is_not_at_work_comes_ahead_of_a_wrong_page(self):
        self.assertEqual(raised(read, HOUSE, "true", ((0, ()),), (), 1, 9), ("BadDrawer",))
        self.assertEqual(raised(found_later, HOUSE, "true", ((0, ()),), (), 1, 9), ("BadPage",))

    def test_wrong_pages(self):
        for function in (read, found_later):
            for page in (*STRANGE, 1, 2, "0", (0,)):
                told = raised(function, HOUSE, "true", LIFE, COINS, 1, page)
                self.assertEqual(told, ("BadPage",), (function, page))

    def test_wrong_times(self):
        wrong = (*STRANGE[:-3], (), [0], [0, 1], (0, 0), (1, 0), (-1,), (4,), (0, 4), (True,),
                 (0, True), (False,), (0, None), (0.0,), ("0",), (0, 1, 2, 3, 4), "0", 0, (0, 2, 1))
        for times in wrong:
            self.assertEqual(raised(view, HOUSE, "true", LIFE, COINS, 0, times), ("BadTimes",), times)
        for times in ((0,), (3,), (0, 1, 2, 3), (1, 3)):
            self.assertEqual(raised(view, HOUSE, "true", LIFE, COINS, 0, times)[0], "returned")

    def test_the_order_of_errors(self):
        front = [BAD_HOUSE, BAD_LIFE, BAD_WAY, BAD_COINS, BAD_DRAWER]
        wrong_page = (5, 1, ("BadPage",))
        wrong_times = (5, (3, 4), ("BadTimes",))
        for function, more in FUNCTIONS:
            wrongs = list(front)
            if function in (read, found_later):
                wrongs.append(wrong_page)
            if function == view:
                wrongs.append(wrong_times)
            check_order(self, swapped(function), (HOUSE, LIFE, "true", COINS, *more), wrongs)

    def test_other_wrong_things_in_the_same_places(self):
        for function, more in FUNCTIONS:
            told = [
                raised(function, [3, 1, 2, 1, 1], "x", None, None, *more),
                raised(function, HOUSE, "x", None, None, *more),
                raised(function, HOUSE, "x", LIFE, None, *more),
                raised(function, HOUSE, "lower", LIFE, None, *more),
            ]
            self.assertEqual(told, [
                ("BadHouse", "form"), ("BadLife", None), ("BadHouse", "way"), ("BadCoins", None)])


if __name__ == "__main__":
    unittest.main()
