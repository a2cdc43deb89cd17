"""The store of point 4, worked out by hand: what is in the cells, what waits, what is known."""

import unittest

from hushdrawers.houses import coin_of
from hushdrawers.runs import found_later, looks, places, read, waiting


def coins_of(house, sets):
    return tuple(coin_of(house, cells) for cells in sets)


class Case(unittest.TestCase):
    """Each test tells a house, a life of sessions, and the sets that its coins draw."""

    way = "true"

    def begin(self, house, life, sets):
        self.house = house
        self.life = life
        self.coins = coins_of(house, sets)

    def cells(self, at=-1):
        return looks(self.house, self.way, self.life, self.coins, self.house[2] - 1)[at][0]

    def fresh(self):
        shown = looks(self.house, self.way, self.life, self.coins, 0)
        return [cells for _, cells in shown[1:]]

    def read(self, drawer, page):
        return read(self.house, self.way, self.life, self.coins, drawer, page)

    def waiting(self, drawer):
        return waiting(self.house, self.way, self.life, self.coins, drawer)

    def places(self, drawer):
        return places(self.house, self.way, self.life, self.coins, drawer)

    def later(self, drawer, page):
        return found_later(self.house, self.way, self.life, self.coins, drawer, page)


class OneDrawer(Case):
    def test_nothing(self):
        self.begin((2, 1, 1, 2, 1), ((0, ()),), ())
        self.assertEqual(self.cells(), (None, None))
        self.assertEqual([self.read(0, 0), self.read(0, 1)], [None, None])
        self.assertEqual([self.waiting(0), self.places(0), self.later(0, 0)], [(), (), None])

    def test_cells_are_sealed_with_nothing(self):
        self.begin((3, 2, 1, 1, 1), ((0, ((), ())),), ((0, 1), (1, 2)))
        self.assertEqual(self.cells(), (None, None, None))
        self.assertEqual(self.fresh(), [(0, 1), (1, 2)])

    def test_one_deed(self):
        self.begin((2, 1, 1, 1, 1), ((0, (((0, 0, 4),),)),), ((1,),))
        self.assertEqual(self.cells(0), (None, None))
        self.assertEqual(self.cells(), (None, (0, 0, 1, 4)))
        self.assertEqual([self.read(0, 0), self.later(0, 0)], [(1, 4), (1, 4)])
        self.assertEqual([self.waiting(0), self.places(0)], [(), ((0, 1),)])

    def test_one_copy_takes_the_first_cell_of_the_set_alone(self):
        self.begin((4, 3, 1, 1, 1), ((0, (((0, 0, 4),),)),), ((1, 2, 3),))
        self.assertEqual(self.cells(), (None, (0, 0, 1, 4), None, None))

    def test_several_deeds_of_one_page_at_one_moment(self):
        self.begin((3, 2, 1, 1, 2), ((0, (((0, 0, 1), (0, 0, 2), (0, 0, 3)),)),), ((0, 2),))
        self.assertEqual(self.cells(), ((0, 0, 3, 3), None, (0, 0, 3, 3)))
        self.assertEqual([self.read(0, 0), self.waiting(0)], [(3, 3), ()])
        self.assertEqual(self.places(0), ((0, 0), (0, 2)))

    def test_the_same_content_is_a_new_version(self):
        self.begin((2, 1, 1, 1, 1), ((0, (((0, 0, 4),), ((0, 0, 4),))),), ((0,), (1,)))
        self.assertEqual(self.cells(), ((0, 0, 1, 4), (0, 0, 2, 4)))
        self.assertEqual(self.places(0), ((0, 1),))

    def test_a_live_cell_is_taken_again(self):
        story = (((0, 0, 4), (0, 1, 5)), (), ())
        self.begin((2, 1, 1, 2, 1), ((0, story),), ((0,), (0,), (1,)))
        self.assertEqual(self.cells(1), ((0, 0, 1, 4), None))
        self.assertEqual(self.cells(2), ((0, 0, 1, 4), None))
        self.assertEqual(self.cells(3), ((0, 0, 1, 4), (0, 1, 1, 5)))

    def test_what_is_live_is_settled_behind_the_deeds(self):
        story = (((0, 0, 4), (0, 1, 5)), ((0, 0, 6),))
        self.begin((2, 1, 1, 2, 1), ((0, story),), ((0,), (0,)))
        self.assertEqual(self.cells(), ((0, 1, 1, 5), None))
        self.assertEqual([self.waiting(0), self.places(0)], [(0,), ((1, 0),)])
        self.assertEqual([self.read(0, 0), self.later(0, 0)], [(2, 6), None])

    def test_a_waiting_copy_becomes_a_new_one_at_its_place(self):
        story = (((0, 2, 1), (0, 0, 2), (0, 1, 3)), ((0, 0, 9),))
        self.begin((4, 1, 1, 3, 1), ((0, story),), ((0,), (1,)))
        self.assertEqual(self.cells(), ((0, 2, 1, 1), (0, 0, 2, 9), None, None))
        self.assertEqual(self.waiting(0), (1,))

    def test_the_other_copies_go_to_the_end(self):
        story = (((0, 0, 1), (0, 1, 2)), ((0, 0, 5),), ())
        self.begin((6, 1, 1, 2, 2), ((0, story[:2]),), ((0,), (1,)))
        self.assertEqual(self.cells(), ((0, 0, 1, 1), (0, 0, 2, 5), None, None, None, None))
        self.assertEqual([self.waiting(0), self.places(0)], [(1, 1, 0), ((0, 1),)])
        self.begin((6, 1, 1, 2, 2), ((0, story),), ((0,), (1,), (0,)))
        self.assertEqual(self.cells()[:2], ((0, 1, 1, 2), (0, 0, 2, 5)))
        self.assertEqual(self.waiting(0), (1, 0))

    def test_deeds_are_done_in_their_sequence(self):
        story = (((0, 1, 3), (0, 0, 2), (0, 1, 4)),)
        self.begin((3, 1, 1, 2, 2), ((0, story),), ((2,),))
        self.assertEqual(self.cells(), (None, None, (0, 1, 2, 4)))
        self.assertEqual(self.waiting(0), (1, 0, 0))
        self.assertEqual([self.read(0, 0), self.read(0, 1)], [(1, 2), (2, 4)])

    def test_more_copies_than_cells(self):
        story = (((0, 0, 1), (0, 1, 2)), (), ((0, 1, 3),))
        self.begin((2, 2, 1, 2, 3), ((0, story[:2]),), ((0, 1), (0, 1)))
        self.assertEqual(self.cells(), ((0, 0, 1, 1), (0, 0, 1, 1)))
        self.assertEqual([self.waiting(0), self.later(0, 1)], [(0, 1, 1, 1), None])
        self.assertEqual(self.places(0), ((0, 0), (0, 1)))
        self.begin((2, 2, 1, 2, 3), ((0, story),), ((0, 1),) * 3)
        self.assertEqual(self.cells(), ((0, 0, 1, 1), (0, 0, 1, 1)))
        self.assertEqual([self.waiting(0), self.read(0, 1)], [(0, 1, 1, 1), (2, 3)])

    def test_elder_versions_stay_outside_the_set(self):
        story = (((0, 0, 5),), ((0, 0, 6),), ())
        self.begin((4, 1, 1, 1, 2), ((0, story),), ((0,), (1,), (2,)))
        self.assertEqual(self.cells(), ((0, 0, 1, 5), (0, 0, 2, 6), (0, 0, 2, 6), None))
        self.assertEqual([self.waiting(0), self.places(0)], [(), ((0, 1), (0, 2))])

    def test_an_elder_version_is_struck_when_it_is_drawn(self):
        story = (((0, 0, 5),), ((0, 0, 6),), ())
        self.begin((3, 1, 1, 1, 1), ((0, story),), ((0,), (1,), (0,)))
        self.assertEqual(self.cells(), (None, (0, 0, 2, 6), None))

    def test_places_go_by_pages_then_cells(self):
        story = (((0, 2, 1), (0, 0, 2)), ((0, 1, 3),))
        self.begin((6, 4, 1, 3, 2), ((0, story),), ((0, 1, 4, 5), (1, 2, 3, 5)))
        self.assertEqual(self.cells(), (
            (0, 2, 1, 1), (0, 2, 1, 1), (0, 1, 1, 3), (0, 1, 1, 3), (0, 0, 1, 2), (0, 0, 1, 2)))
        self.assertEqual(self.places(0), ((0, 4), (0, 5), (1, 2), (1, 3), (2, 0), (2, 1)))


class SeveralDrawers(Case):
    def test_drawers_beneath_are_overwritten(self):
        story = (((1, 0, 5),), ((0, 0, 7),), ())
        self.begin((2, 1, 2, 1, 1), ((1, story[:2]),), ((0,), (0,)))
        self.assertEqual(self.cells(), ((0, 0, 1, 7), None))
        self.assertEqual([self.read(1, 0), self.later(1, 0)], [(1, 5), None])
        self.assertEqual([self.waiting(0), self.waiting(1)], [(), (0,)])
        self.begin((2, 1, 2, 1, 1), ((1, story),), ((0,), (0,), (1,)))
        self.assertEqual(self.cells(), ((0, 0, 1, 7), (1, 0, 1, 5)))
        self.assertEqual([self.waiting(1), self.later(1, 0)], [(), (1, 5)])

    def test_drawers_above_are_not_overwritten(self):
        story = (((0, 0, 7),), ((1, 0, 5),))
        self.begin((2, 1, 2, 1, 1), ((1, story),), ((0,), (0,)))
        self.assertEqual(self.cells(), ((0, 0, 1, 7), None))
        self.assertEqual([self.waiting(0), self.waiting(1)], [(), (0,)])

    def test_the_upper_drawer_chooses_first_whatever_the_sequence_of_deeds(self):
        self.begin((3, 2, 3, 1, 1), ((2, (((2, 0, 1), (1, 0, 2), (0, 0, 3)),)),), ((0, 2),))
        self.assertEqual(self.cells(), ((0, 0, 1, 3), None, (1, 0, 1, 2)))
        self.assertEqual([self.waiting(drawer) for drawer in range(3)], [(), (), (0,)])

    def test_a_copy_whose_cell_is_taken_goes_to_the_end_of_the_row(self):
        story = (((1, 0, 5),), ((0, 0, 7), (0, 1, 8), (1, 1, 6)))
        self.begin((3, 2, 2, 2, 1), ((1, story),), ((0, 1), (0, 1)))
        self.assertEqual(self.cells(1), ((1, 0, 1, 5), None, None))
        self.assertEqual(self.cells(2), ((0, 0, 1, 7), (0, 1, 1, 8), None))
        self.assertEqual([self.waiting(1), self.places(1)], [(1, 0), ()])

    def test_a_copy_whose_cell_is_taken_may_take_another_one_at_once(self):
        story = (((1, 0, 5),), ((0, 0, 7),))
        self.begin((3, 2, 2, 1, 1), ((1, story),), ((0, 1), (0, 1)))
        self.assertEqual(self.cells(), ((0, 0, 1, 7), (1, 0, 1, 5), None))
        self.assertEqual(self.waiting(1), ())

    def test_copies_whose_cells_are_taken_wait_by_cells_ascending(self):
        story = (((1, 1, 1), (1, 0, 2)), ((0, 0, 3), (0, 1, 4)))
        self.begin((2, 2, 2, 2, 1), ((1, story),), ((0, 1), (0, 1)))
        self.assertEqual(self.cells(1), ((1, 1, 1, 1), (1, 0, 1, 2)))
        self.assertEqual(self.cells(2), ((0, 0, 1, 3), (0, 1, 1, 4)))
        self.assertEqual(self.waiting(1), (1, 0))

    def test_live_cells_are_taken_again_ahead_of_waiting_copies(self):
        story = (((1, 0, 5),), ((1, 1, 6),))
        self.begin((3, 2, 2, 2, 1), ((1, story),), ((1, 2), (0, 1)))
        self.assertEqual(self.cells(1), (None, (1, 0, 1, 5), None))
        self.assertEqual(self.cells(2), ((1, 1, 1, 6), (1, 0, 1, 5), None))

    def test_an_elder_version_whose_cell_is_taken_does_not_wait(self):
        story = (((1, 0, 5),), ((1, 0, 6), (0, 0, 7)))
        self.begin((2, 1, 2, 1, 1), ((1, story),), ((0,), (0,)))
        self.assertEqual(self.cells(), ((0, 0, 1, 7), None))
        self.assertEqual([self.waiting(1), self.read(1, 0)], [(0,), (2, 6)])

    def test_several_copies_in_two_drawers(self):
        story = (((1, 0, 5), (0, 0, 7)), ())
        self.begin((4, 3, 2, 1, 2), ((1, story),), ((0, 1, 2), (1, 2, 3)))
        self.assertEqual(self.cells(1), ((0, 0, 1, 7), (0, 0, 1, 7), (1, 0, 1, 5), None))
        self.assertEqual(self.cells(2), (
            (0, 0, 1, 7), (0, 0, 1, 7), (1, 0, 1, 5), (1, 0, 1, 5)))
        self.assertEqual([self.waiting(1), self.places(1)], [(), ((0, 2), (0, 3))])

    def test_like_pages_of_two_drawers_are_told_apart(self):
        self.begin((4, 2, 2, 1, 1), ((1, (((1, 0, 5),), ((0, 0, 7), (0, 0, 8)))),), ((0, 1), (2, 3)))
        self.assertEqual([self.read(0, 0), self.read(1, 0)], [(2, 8), (1, 5)])
        self.assertEqual([self.later(0, 0), self.later(1, 0)], [(2, 8), (1, 5)])
        self.assertEqual([self.places(0), self.places(1)], [((0, 2),), ((0, 0),)])


class SeveralSessions(Case):
    def test_what_waited_is_gone(self):
        life = ((0, (((0, 0, 5), (0, 1, 6)),)), (0, ()))
        self.begin((3, 1, 1, 2, 1), life[:1], ((0,),))
        self.assertEqual([self.waiting(0), self.read(0, 1), self.later(0, 1)], [(1,), (1, 6), None])
        self.begin((3, 1, 1, 2, 1), life, ((0,),))
        self.assertEqual([self.waiting(0), self.read(0, 1)], [(), None])
        self.assertEqual(self.read(0, 0), (1, 5))

    def test_missing_copies_wait_by_pages_ascending(self):
        story = (((0, 2, 1), (0, 0, 2), (0, 1, 3)), (), ())
        life = ((0, story), (0, ()))
        self.begin((4, 1, 1, 3, 3), life[:1], ((0,), (1,), (2,)))
        self.assertEqual(self.waiting(0), (0, 0, 0, 1, 1, 1))
        self.begin((4, 2, 1, 3, 3), life, ((2, 3), (0, 1), (1, 2)))
        self.assertEqual(self.cells(), ((0, 2, 1, 1), (0, 0, 1, 2), (0, 2, 1, 1), (0, 2, 1, 1)))
        self.assertEqual(self.waiting(0), (0, 0))
        self.begin((5, 2, 1, 3, 3), ((0, story[:2]), (0, ())), ((2, 3), (0, 1)))
        self.assertEqual(self.waiting(0), (0, 0))
        self.assertEqual(self.places(0), ((0, 1), (2, 0), (2, 2), (2, 3)))

    def test_pages_with_all_their_copies_do_not_wait(self):
        story = (((0, 1, 1),), ((0, 0, 2),))
        self.begin((4, 1, 1, 2, 1), ((0, story), (0, ((),))), ((0,), (1,), (2,)))
        self.assertEqual(self.cells(), ((0, 1, 1, 1), (0, 0, 1, 2), None, None))
        self.assertEqual(self.waiting(0), ())

    def test_copies_that_were_never_sealed_wait_in_the_next_session(self):
        story = (((0, 1, 1), (0, 0, 2)),)
        self.begin((6, 4, 1, 2, 3), ((0, story), (0, ())), ((0, 1, 2, 3),))
        self.assertEqual(self.places(0), ((0, 3), (1, 0), (1, 1), (1, 2)))
        self.assertEqual(self.waiting(0), (0, 0))

    def test_copies_that_were_overwritten_wait_in_the_next_session(self):
        life = ((1, (((1, 1, 1), (1, 0, 2)),)), (0, (((0, 0, 9),),)), (1, ()))
        self.begin((6, 4, 2, 2, 3), life, ((0, 1, 2, 3), (2, 3, 4, 5)))
        self.assertEqual(self.cells(), (
            (1, 1, 1, 1), (1, 1, 1, 1), (0, 0, 1, 9), (0, 0, 1, 9), (0, 0, 1, 9), None))
        self.assertEqual([self.waiting(0), self.waiting(1)], [(), (1,)])

    def test_missing_copies_are_sealed_in_the_next_session(self):
        life = ((0, (((0, 0, 5),),)), (0, ((),)))
        self.begin((3, 1, 1, 1, 2), life, ((0,), (2,)))
        self.assertEqual(self.cells(), ((0, 0, 1, 5), None, (0, 0, 1, 5)))

    def test_cells_of_drawers_beneath_are_taken_while_their_keys_rest(self):
        life = ((1, (((1, 0, 5),),)), (0, (((0, 0, 7),),)), (1, ()))
        self.begin((3, 1, 2, 1, 1), life, ((0,), (0,)))
        self.assertEqual(self.cells(), ((0, 0, 1, 7), None, None))
        self.assertEqual([self.read(1, 0), self.later(1, 0)], [None, None])
        self.assertEqual([self.waiting(1), self.places(1)], [(), ()])

    def test_cells_of_drawers_beneath_are_sealed_with_nothing_while_their_keys_rest(self):
        life = ((1, (((1, 0, 5),),)), (0, ((),)))
        self.begin((3, 1, 2, 1, 1), life, ((0,), (0,)))
        self.assertEqual(self.cells(), (None, None, None))
        self.assertIsNone(self.later(1, 0))
        self.begin((3, 1, 2, 1, 1), life, ((0,), (1,)))
        self.assertEqual(self.cells(), ((1, 0, 1, 5), None, None))
        self.assertEqual(self.later(1, 0), (1, 5))

    def test_a_lost_copy_waits_when_the_key_is_at_work_again(self):
        life = ((1, (((1, 0, 5),),)), (0, (((0, 0, 7),),)), (1, ()))
        self.begin((4, 2, 2, 1, 2), life, ((0, 1), (1, 2)))
        self.assertEqual(self.cells(), ((1, 0, 1, 5), (0, 0, 1, 7), (0, 0, 1, 7), None))
        self.assertEqual([self.waiting(0), self.waiting(1)], [(), (0,)])
        self.assertEqual(self.places(1), ((0, 0),))

    def test_an_elder_version_is_the_newest_one_there_is(self):
        first = (1, (((1, 0, 5),), ((1, 0, 6),)))
        life = (first, (0, (((0, 0, 7),),)), (1, ()))
        self.begin((3, 1, 2, 1, 1), life, ((0,), (1,), (1,)))
        self.assertEqual(self.cells(), ((1, 0, 1, 5), (0, 0, 1, 7), None))
        self.assertEqual([self.read(1, 0), self.later(1, 0)], [(1, 5), (1, 5)])
        self.assertEqual([self.waiting(1), self.places(1)], [(), ((0, 0),)])
        life = (first, (0, (((0, 0, 7),),)), (1, (((1, 0, 8),),)))
        self.begin((3, 1, 2, 1, 1), life, ((0,), (1,), (1,), (2,)))
        self.assertEqual(self.read(1, 0), (2, 8))
        self.assertEqual(self.cells(), ((1, 0, 1, 5), (0, 0, 1, 7), (1, 0, 2, 8)))

    def test_the_newest_version_is_known_wherever_it_stands(self):
        story = (((0, 0, 5),), ((0, 0, 6),))
        for sets in (((0,), (2,)), ((2,), (0,))):
            self.begin((3, 1, 1, 1, 1), ((0, story), (0, ())), sets)
            self.assertEqual([self.read(0, 0), self.later(0, 0)], [(2, 6), (2, 6)])
            self.assertEqual([self.waiting(0), self.places(0)], [(), ((0, sets[1][0]),)])

    def test_a_session_without_moments_changes_no_cell(self):
        life = ((1, (((1, 0, 5),),)), (0, ()), (1, ()), (0, ()))
        self.begin((2, 1, 2, 1, 1), life, ((1,),))
        self.assertEqual(self.cells(), (None, (1, 0, 1, 5)))
        self.assertEqual(self.later(1, 0), (1, 5))


class Free(Case):
    way = "free"

    def test_waiting_copies_leave_live_cells(self):
        self.begin((3, 1, 2, 1, 1), ((1, (((1, 0, 5),), ((0, 0, 7),), ())),), ((0,), (0,), (1,)))
        self.assertEqual(self.cells(2), ((1, 0, 1, 5), None, None))
        self.assertEqual(self.cells(3), ((1, 0, 1, 5), (0, 0, 1, 7), None))
        self.assertEqual(self.fresh(), [(0,), (0,), (1,)])

    def test_waiting_copies_take_the_next_cell(self):
        self.begin((3, 2, 2, 1, 1), ((1, (((1, 0, 5),), ((0, 0, 7),))),), ((0, 1), (0, 1)))
        self.assertEqual(self.cells(), ((1, 0, 1, 5), (0, 0, 1, 7), None))

    def test_cells_that_are_live_no_more_behind_the_deeds_are_taken(self):
        story = (((1, 0, 5),), ((1, 0, 6), (0, 0, 7)))
        self.begin((2, 1, 2, 1, 1), ((1, story),), ((0,), (0,)))
        self.assertEqual(self.cells(), ((0, 0, 1, 7), None))

    def test_cells_whose_key_rests_are_taken(self):
        self.begin((2, 1, 2, 1, 1), ((1, (((1, 0, 5),),)), (0, (((0, 0, 7),),))), ((0,), (0,)))
        self.assertEqual(self.cells(), ((0, 0, 1, 7), None))


class Idle(Case):
    way = "idle"

    def test_nothing_is_sealed_while_nothing_waits(self):
        story = ((), ((0, 0, 5),), (), ((0, 0, 6),))
        self.begin((3, 1, 1, 1, 1), ((0, story),), ((0,), (1,), (2,), (1,)))
        self.assertEqual(self.fresh(), [(), (1,), (), (1,)])
        self.assertEqual(self.cells(), (None, (0, 0, 2, 6), None))

    def test_what_waits_in_a_lower_drawer_counts(self):
        story = (((1, 0, 5), (0, 0, 7)), (), ())
        self.begin((3, 1, 2, 1, 1), ((1, story),), ((2,), (0,), (1,)))
        self.assertEqual(self.fresh(), [(2,), (0,), ()])

    def test_the_whole_set_is_sealed_while_anything_waits(self):
        self.begin((4, 3, 1, 1, 1), ((0, (((0, 0, 5),),)),), ((1, 2, 3),))
        self.assertEqual(self.fresh(), [(1, 2, 3)])

    def test_elder_versions_stay(self):
        story = (((0, 0, 5),), ((0, 0, 6),), ())
        self.begin((3, 1, 1, 1, 1), ((0, story),), ((0,), (1,), (0,)))
        self.assertEqual(self.cells(), ((0, 0, 1, 5), (0, 0, 2, 6), None))


class Kept(Case):
    way = "kept"

    def test_live_cells_are_not_sealed(self):
        story = (((1, 0, 5),), ((0, 0, 7),), ())
        self.begin((3, 2, 2, 1, 1), ((1, story),), ((0, 1), (0, 2), (1, 2)))
        self.assertEqual(self.fresh(), [(0, 1), (2,), (1,)])
        self.assertEqual(self.cells(), ((1, 0, 1, 5), None, (0, 0, 1, 7)))

    def test_elder_versions_are_sealed(self):
        story = (((0, 0, 5),), ((0, 0, 6),))
        self.begin((2, 1, 1, 1, 1), ((0, story),), ((0,), (0,)))
        self.assertEqual([self.fresh(), self.cells()], [[(0,), (0,)], ((0, 0, 2, 6), None)])

    def test_cells_whose_key_rests_are_sealed(self):
        self.begin((2, 1, 2, 1, 1), ((1, (((1, 0, 5),),)), (0, ((),))), ((0,), (0,)))
        self.assertEqual([self.fresh(), self.cells()], [[(0,), (0,)], (None, None)])

    def test_all_cells_of_the_set_may_be_kept(self):
        self.begin((2, 1, 1, 2, 1), ((0, (((0, 0, 5),), ((0, 1, 6),))),), ((0,), (0,)))
        self.assertEqual([self.fresh(), self.waiting(0)], [[(0,), ()], (1,)])


class Need(Case):
    way = "need"

    def test_so_many_cells_as_copies_wait(self):
        story = ((), ((0, 0, 5), (1, 0, 6)), ((0, 0, 7),), ())
        self.begin((4, 3, 2, 1, 1), ((1, story),), ((0, 1, 2), (1, 2, 3), (0, 2, 3), (0, 1, 2)))
        self.assertEqual(self.fresh(), [(), (1, 2), (0,), ()])
        self.assertEqual(self.cells(), ((0, 0, 2, 7), (0, 0, 1, 5), (1, 0, 1, 6), None))

    def test_more_copies_than_are_sealed(self):
        self.begin((4, 2, 1, 2, 3), ((0, (((0, 0, 5), (0, 1, 6)),)),), ((1, 3),))
        self.assertEqual([self.fresh(), self.waiting(0)], [[(1, 3)], (0, 1, 1, 1)])

    def test_live_cells_are_taken_again_within_the_first_ones_alone(self):
        story = (((1, 0, 5),), ((0, 0, 7),), ())
        self.begin((3, 2, 2, 1, 1), ((1, story),), ((0, 1), (0, 1), (1, 2)))
        self.assertEqual(self.fresh(), [(0,), (0,), (1,)])
        self.assertEqual(self.cells(2), ((0, 0, 1, 7), None, None))
        self.assertEqual(self.cells(3), ((0, 0, 1, 7), (1, 0, 1, 5), None))


class Lower(Case):
    way = "lower"

    def test_the_deepest_drawer_chooses_first(self):
        self.begin((3, 2, 3, 1, 1), ((2, (((0, 0, 1), (1, 0, 2), (2, 0, 3)),)),), ((0, 2),))
        self.assertEqual(self.cells(), ((2, 0, 1, 3), None, (1, 0, 1, 2)))
        self.assertEqual([self.waiting(drawer) for drawer in range(3)], [(0,), (), ()])

    def test_cells_of_drawers_above_are_taken(self):
        story = (((0, 0, 7),), ((1, 0, 5),))
        self.begin((2, 1, 2, 1, 1), ((1, story),), ((0,), (0,)))
        self.assertEqual(self.cells(), ((1, 0, 1, 5), None))
        self.assertEqual([self.waiting(0), self.waiting(1)], [(0,), ()])

    def test_the_deepest_whose_key_is_at_work(self):
        life = ((2, ()), (1, (((0, 0, 1), (1, 0, 2)),)))
        self.begin((2, 1, 3, 1, 1), life, ((0,),))
        self.assertEqual(self.cells(), ((1, 0, 1, 2), None))


if __name__ == "__main__":
    unittest.main()
