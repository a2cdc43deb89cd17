import unittest

from hushdrawers.lives import alike_above, check_coins, check_story, is_life, is_story, upper
from tests.wrong import STRANGE, check_order, raised

HOUSE = (3, 1, 2, 2, 1)
DEED = (1, 1, 9)
WRONG_DEEDS = (
    (2, 0, 0), (-1, 0, 0), (True, 0, 0), (None, 0, 0), (0.0, 0, 0), ("0", 0, 0), ((0,), 0, 0),
    (0, 2, 0), (0, -1, 0), (0, False, 0), (0, None, 0), (0, [0], 0),
    (0, 0, 10), (0, 0, -1), (0, 0, True), (0, 0, None), (0, 0, "0"), (0, 0, 0.0),
    (0, 0), (0, 0, 0, 0), [0, 0, 0], "000", None, 0, True, (), {},
)


class Stories(unittest.TestCase):
    def check_wrong(self, value, index):
        self.assertIs(is_story(HOUSE, value), False, value)
        self.assertEqual(raised(check_story, HOUSE, value), ("BadStory", index), value)

    def test_stories(self):
        stories = [
            (), ((),), ((), ()), ((DEED,),), ((DEED, DEED), (), ((0, 0, 0), (1, 0, 5))),
            ((DEED,) * 6,), ((),) * 40, ((DEED,) * 6,) * 40,
        ]
        for story in stories:
            self.assertIs(is_story(HOUSE, story), True, story)
            self.assertEqual(raised(check_story, HOUSE, story), ("returned", None))

    def test_no_tuple_or_too_long(self):
        for value in (None, True, 0, "", "abc", [], [()], {}, set(), ((),) * 41, ((DEED,),) * 41):
            self.check_wrong(value, None)

    def test_too_long_ahead_of_wrong_moments(self):
        self.check_wrong((None,) * 41, None)
        self.check_wrong((None,) * 40, 0)

    def test_wrong_moments(self):
        for value in (None, True, 0, "", "abc", [], [DEED], {}, (DEED,) * 7, DEED, ((),), ("",)):
            self.check_wrong((value,), 0)
            self.check_wrong(((), (DEED,), value, (), None), 2)
            self.check_wrong(((),) * 39 + (value,), 39)

    def test_wrong_deeds(self):
        for deed in WRONG_DEEDS:
            self.check_wrong(((), (deed,)), 1)
            self.check_wrong(((DEED, DEED, deed),), 0)

    def test_deeds_at_the_limits(self):
        house = (2, 1, 4, 6, 1)
        self.assertIs(is_story(house, (((3, 5, 9), (0, 0, 0)),)), True)
        self.assertIs(is_story(house, (((4, 5, 9),),)), False)
        self.assertIs(is_story(house, (((3, 6, 9),),)), False)
        self.assertIs(is_story(house, (((3, 5, 10),),)), False)

    def test_wrong_house(self):
        for value in ((), None, ((),) * 41):
            self.assertEqual(raised(is_story, (2, 3, 1, 1, 1), value), ("BadHouse", "sealed"))
            self.assertEqual(raised(is_story, [2, 1, 1, 1, 1], value), ("BadHouse", "form"))


class Lives(unittest.TestCase):
    def check_wrong(self, value, index):
        self.assertIs(is_life(HOUSE, value), False, value)
        for call in ((upper, HOUSE, value, None), (alike_above, HOUSE, value, None, None),
                     (alike_above, HOUSE, ((0, ()),), value, None)):
            self.assertEqual(raised(*call), ("BadLife", index), value)

    def test_lives(self):
        lives = [
            ((0, ()),), ((1, ()),), ((1, ((DEED,), ())), (0, (((0, 1, 0),),))), ((0, ()),) * 6,
            ((1, ((DEED,),) * 40),), ((1, ((),) * 7),) * 5 + ((0, ((),) * 5),),
            ((0, ((),) * 40), (1, ())),
        ]
        for life in lives:
            self.assertIs(is_life(HOUSE, life), True, life)

    def test_no_tuple_of_one_to_six(self):
        for value in (None, True, 0, "", "abc", [], [(0, ())], {}, (), ((0, ()),) * 7, (None,) * 7):
            self.check_wrong(value, None)

    def test_no_session(self):
        wrong = (
            None, 0, "00", [0, ()], (0,), (0, (), ()), (), ((), 0), (2, ()), (-1, ()), (True, ()),
            (False, ()), (None, ()), (0.0, ()), ("0", ()), (0, []), (0, None), (0, ((),) * 41),
            (1, (None,)), (1, ((DEED,) * 7,)), (0, ((DEED,),)), (0, ((), ((0, 0, 0), DEED))),
        )
        for session in wrong:
            self.check_wrong((session,), 0)
            self.check_wrong(((1, ()), session, None), 1)
            self.check_wrong(((1, ()),) * 5 + (session,), 5)

    def test_wrong_deeds(self):
        for deed in WRONG_DEEDS:
            self.check_wrong(((1, ()), (1, ((deed,),))), 1)

    def test_deeds_beneath_the_deepest(self):
        house = (2, 1, 4, 1, 1)
        for deepest in range(4):
            for drawer in range(4):
                life = ((deepest, (((drawer, 0, 0),),)),)
                self.assertIs(is_life(house, life), drawer <= deepest)

    def test_more_than_forty_moments(self):
        self.check_wrong(((0, ((),) * 40), (0, ((),))), 1)
        self.check_wrong(((0, ((),) * 20), (0, ((),) * 20), (0, ()), (0, ((),))), 3)
        self.check_wrong(((0, ((),) * 20), (0, ((),) * 21), None), 1)
        self.check_wrong(((0, ((),) * 20), None, (0, ((),) * 21)), 1)
        self.check_wrong(((0, ((),) * 41),), 0)

    def test_wrong_house(self):
        for value in ((), None, ((0, ()),)):
            self.assertEqual(raised(is_life, (2, 1, 5, 1, 1), value), ("BadHouse", "drawers"))


class CoinsOfALife(unittest.TestCase):
    LIFE = ((1, ((DEED,), ())), (0, ()), (0, ((),)))

    def told(self, value):
        return raised(check_coins, HOUSE, self.LIFE, value)

    def test_coins(self):
        for coins in ((0, 0, 0), (2, 1, 0), (2, 2, 2)):
            self.assertEqual(self.told(coins), ("returned", None))
        self.assertEqual(raised(check_coins, HOUSE, ((0, ()),), ()), ("returned", None))

    def test_no_tuple_of_as_many(self):
        for value in (*STRANGE, [0, 0, 0], "000", b"000", (0, 0), (0, 0, 0, 0), (None,) * 4):
            self.assertEqual(self.told(value), ("BadCoins", None), value)

    def test_wrong_coins(self):
        for coin in (3, -1, True, False, None, 0.0, "0", (), [0]):
            self.assertEqual(self.told((coin, 0, None)), ("BadCoins", 0), coin)
            self.assertEqual(self.told((0, coin, None)), ("BadCoins", 1), coin)
            self.assertEqual(self.told((2, 1, coin)), ("BadCoins", 2), coin)


class Upper(unittest.TestCase):
    def test_example(self):
        house, life = (3, 1, 2, 1, 1), ((1, (((1, 0, 5),), ((0, 0, 7),), ())),)
        bare = ((0, ((), ((0, 0, 7),), ())),)
        told = [
            is_story(house, life[0][1]), is_life(house, ((0, (((1, 0, 5),),)),)),
            upper(house, life, 0), alike_above(house, life, bare, 0),
        ]
        self.assertEqual(told, [True, False, bare, True])

    def test_several_sessions(self):
        house = (3, 1, 4, 1, 1)
        life = (
            (3, (((3, 0, 1), (0, 0, 2), (2, 0, 3)), ((2, 0, 4), (1, 0, 5)))),
            (0, (((0, 0, 6),), ())), (2, (((2, 0, 7), (2, 0, 8)),)), (1, ()),
        )
        self.assertEqual(upper(house, life, 3), life)
        self.assertEqual(upper(house, life, 2), (
            (2, (((0, 0, 2), (2, 0, 3)), ((2, 0, 4), (1, 0, 5)))),
            (0, (((0, 0, 6),), ())), (2, (((2, 0, 7), (2, 0, 8)),)), (1, ()),
        ))
        self.assertEqual(upper(house, life, 1), (
            (1, (((0, 0, 2),), ((1, 0, 5),))), (0, (((0, 0, 6),), ())), (1, ((),)), (1, ()),
        ))
        self.assertEqual(upper(house, life, 0), (
            (0, (((0, 0, 2),), ())), (0, (((0, 0, 6),), ())), (0, ((),)), (0, ()),
        ))

    def test_alike_above(self):
        house = (3, 1, 3, 1, 1)
        one = ((2, (((2, 0, 1), (1, 0, 2), (0, 0, 3)),)),)
        other = ((1, (((1, 0, 2), (0, 0, 3)),)),)
        third = ((1, (((0, 0, 3), (1, 0, 2)),)),)
        longer = ((1, (((1, 0, 2), (0, 0, 3)), ())),)
        apart = ((0, (((0, 0, 3),),)), (0, ()))
        alike = [alike_above(house, one, other, drawer) for drawer in range(3)]
        self.assertEqual(alike, [True, True, False])
        alike = [alike_above(house, one, third, drawer) for drawer in range(3)]
        self.assertEqual(alike, [True, False, False])
        for drawer in range(3):
            self.assertIs(alike_above(house, one, one, drawer), True)
            self.assertIs(alike_above(house, one, longer, drawer), False)
            self.assertIs(alike_above(house, one, apart, drawer), False)

    def test_keys_alone_make_lives_unlike(self):
        house = (2, 1, 3, 1, 1)
        self.assertIs(alike_above(house, ((0, ()),), ((1, ()),), 1), False)
        self.assertIs(alike_above(house, ((0, ()),), ((1, ()),), 0), True)
        self.assertIs(alike_above(house, ((2, ()),), ((1, ()),), 1), True)

    def test_no_drawer(self):
        life = ((0, ()),)
        for value in (*STRANGE, 2, 99, "0", (0,)):
            self.assertEqual(raised(upper, HOUSE, life, value), ("BadDrawer",), value)
            self.assertEqual(raised(alike_above, HOUSE, life, life, value), ("BadDrawer",), value)

    def test_the_order_of_errors(self):
        life = ((0, ()),)
        check_order(self, upper, (HOUSE, life, 0), [
            (0, (2, 1, 1, 7, 1), ("BadHouse", "pages")),
            (1, ((0, ()), (2, ())), ("BadLife", 1)),
            (2, 2, ("BadDrawer",)),
        ])
        check_order(self, alike_above, (HOUSE, life, life, 0), [
            (0, (2, 1, 1, 7, 1), ("BadHouse", "pages")),
            (1, ((0, ()), (2, ())), ("BadLife", 1)),
            (2, (), ("BadLife", None)),
            (3, 2, ("BadDrawer",)),
        ])
        bad = (2, 1, 1, 7, 1)
        self.assertEqual(raised(upper, bad, None, None), ("BadHouse", "pages"))
        self.assertEqual(raised(alike_above, bad, None, None, None), ("BadHouse", "pages"))

    def test_arguments_are_not_changed(self):
        value = [(0, ((),))]
        self.assertIs(is_life(HOUSE, value), False)
        self.assertEqual(value, [(0, ((),))])


if __name__ == "__main__":
    unittest.main()
