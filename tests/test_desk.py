import random
import unittest

from hushdrawers.desk import Desk
from tests.model import rows_of_coins, told, viewed
from tests.test_promises import random_house
from tests.wrong import STRANGE, raised

RIGHT = ("house 3 1 2 1 1", "keys 0", "put 0 0 1", "seal 0", "get 0 0", "wait 0", "look 0", "life")


def desk_behind(*lines):
    desk = Desk()
    for line in lines:
        desk.do(line)
    return desk


def moment_text(deeds):
    return " ".join("%d:%d=%d" % deed for deed in deeds) or "-"


def life_text(life):
    return " | ".join(
        " / ".join(["keys %d" % deepest, *map(moment_text, story)]) for deepest, story in life)


class Case(unittest.TestCase):
    def check_all(self, desk, lines):
        """Check that a desk tells of each line what stands behind it."""
        for line, expected in lines:
            self.assertEqual(desk.do(line), expected, line)

    def check_wrong(self, desk, line, word):
        self.assertEqual(raised(desk.do, line), ("BadLine", word), line)


class Examples(Case):
    def test_example(self):
        desk = Desk()
        lines = ["house 3 1 2 1 1", "keys 1", "put 1 0 5", "seal 0", "put 0 0 7", "seal 0", "wait 1",
                 "get 1 0", "look 1", "seal 1", "look 1", "wait 1", "keys 0", "get 0 0", "life"]
        self.assertEqual([desk.do(line) for line in lines], [
            "ready", "keys 0 to 1", "1", "0", "1", "0", "0", "5", "0:0=7 - -", "1", "0:0=7 1:0=5 -",
            "none", "keys 0 to 0", "7", "keys 1 / 1:0=5 / 0:0=7 / - | keys 0"])


class Lines(Case):
    def test_house_begins_anew(self):
        desk = desk_behind("house 3 1 2 1 1", "keys 1", "put 1 0 5", "seal 0", "put 0 0 1")
        self.assertEqual(desk.do("house 2 1 1 1 1"), "ready")
        self.check_wrong(desk, "life", "keys")
        self.check_all(desk, [
            ("keys 0", "keys 0 to 0"), ("life", "keys 0"), ("look 0", "- -"), ("get 0 0", "none"),
            ("seal 1", "1"), ("look 0", "- -"),
        ])
        self.check_wrong(desk, "look 1", "refused")

    def test_six_sessions_may_be_begun_again_behind_a_house(self):
        desk = desk_behind("house 3 1 2 1 1", *["keys 1"] * 6)
        self.check_wrong(desk, "keys 1", "refused")
        desk.do("house 3 1 2 1 1")
        for _ in range(6):
            self.assertEqual(desk.do("keys 1"), "keys 0 to 1")
        self.check_wrong(desk, "keys 0", "refused")
        self.assertEqual(desk.do("life"), " | ".join(["keys 1"] * 6))

    def test_keys_strike_the_deeds_that_stand(self):
        desk = desk_behind("house 3 1 2 2 1", "keys 1", "put 1 0 5", "put 1 1 6", "keys 1")
        self.check_all(desk, [
            ("put 0 1 3", "1"), ("seal 2", "2"), ("look 1", "- - 0:1=3"), ("get 1 0", "none"),
            ("life", "keys 1 | keys 1 / 0:1=3"),
        ])

    def test_what_waited_in_an_elder_session_is_gone(self):
        desk = desk_behind("house 3 1 1 2 1", "keys 0", "put 0 0 5", "put 0 1 6", "seal 0")
        self.check_all(desk, [
            ("wait 0", "1"), ("get 0 1", "6"), ("keys 0", "keys 0 to 0"), ("wait 0", "none"),
            ("get 0 1", "none"), ("get 0 0", "5"),
        ])

    def test_put_counts_the_deeds_that_stand(self):
        desk = desk_behind("house 3 1 2 1 1", "keys 1")
        for many in range(1, 7):
            self.assertEqual(desk.do("put 0 0 %d" % many), str(many))
        self.check_wrong(desk, "put 0 0 7", "refused")
        self.check_all(desk, [
            ("seal 1", "1"), ("look 0", "- 0:0=6 -"), ("put 0 0 0", "1"),
            ("life", "keys 1 / 0:0=1 0:0=2 0:0=3 0:0=4 0:0=5 0:0=6"),
        ])

    def test_deeds_that_stand_are_not_done(self):
        desk = desk_behind("house 3 1 1 2 2", "keys 0", "put 0 0 5")
        self.check_all(desk, [
            ("get 0 0", "none"), ("wait 0", "none"), ("look 0", "- - -"), ("life", "keys 0"),
            ("seal 0", "0"), ("get 0 0", "5"), ("wait 0", "0"), ("put 0 0 8", "1"), ("get 0 0", "5"),
            ("wait 0", "0"), ("seal 1", "1"), ("get 0 0", "8"), ("look 0", "0:0=5 0:0=8 -"),
        ])

    def test_seal_tells_the_cells(self):
        desk = desk_behind("house 12 3 1 1 1", "keys 0")
        self.check_all(desk, [
            ("seal 0", "0,1,2"), ("seal 219", "9,10,11"), ("seal 218", "8,10,11"),
            ("seal 1", "0,1,3"), ("life", "keys 0 / - / - / - / -"),
        ])
        self.check_wrong(desk, "seal 220", "refused")

    def test_forty_moments(self):
        desk = desk_behind(
            "house 3 1 2 1 1", "keys 1", *["seal 0"] * 25, "keys 0", *["seal 1"] * 15)
        self.check_wrong(desk, "seal 0", "refused")
        # Deeds may stand, but there is no further moment for them.
        self.assertEqual(desk.do("put 0 0 1"), "1")
        self.check_wrong(desk, "seal 0", "refused")
        self.assertEqual(desk.do("keys 1"), "keys 0 to 1")
        self.check_wrong(desk, "seal 0", "refused")
        moments = " / -" * 25, " / -" * 15
        self.assertEqual(desk.do("life"), "keys 1%s | keys 0%s | keys 1" % moments)
        desk.do("house 3 1 2 1 1")
        desk.do("keys 1")
        self.assertEqual(desk.do("seal 0"), "0")

    def test_wait_tells_a_page_for_each_copy(self):
        desk = desk_behind("house 6 1 2 3 3", "keys 1", "put 1 2 1", "put 1 0 1", "seal 0")
        self.check_all(desk, [
            ("wait 1", "2,2,0,0,0"), ("wait 0", "none"), ("seal 1", "1"), ("wait 1", "2,0,0,0"),
        ])

    def test_look_with_the_keys_of_any_drawer(self):
        desk = desk_behind(
            "house 4 1 3 2 1", "keys 2", "put 2 1 9", "seal 0", "put 1 0 8", "seal 1", "put 0 1 0",
            "seal 2", "keys 0")
        self.check_all(desk, [
            ("look 0", "- - 0:1=0 -"), ("look 1", "- 1:0=8 0:1=0 -"),
            ("look 2", "2:1=9 1:0=8 0:1=0 -"), ("get 0 1", "0"),
        ])
        for line in ("look 3", "get 1 0", "get 2 1", "wait 1", "wait 3", "get 0 2"):
            self.check_wrong(desk, line, "refused")

    def test_look_shows_elder_versions(self):
        desk = desk_behind("house 2 1 1 1 1", "keys 0", "put 0 0 1", "seal 0", "put 0 0 2", "seal 1")
        self.check_all(desk, [("look 0", "0:0=1 0:0=2"), ("get 0 0", "2"), ("wait 0", "none")])

    def test_needless_noughts_do_no_harm(self):
        desk = Desk()
        self.check_all(desk, [
            ("house 000003 01 02 002 0001", "ready"), ("keys 000001", "keys 0 to 1"),
            ("put 01 001 0009", "1"), ("put 000000 00 000000", "2"), ("seal 000002", "2"),
            ("get 01 01", "9"), ("wait 0001", "1"), ("look 000001", "- - 0:0=0"),
            ("life", "keys 1 / 1:1=9 0:0=0"),
        ])

    def test_desks_are_apart(self):
        one, other = Desk(), Desk()
        one.do("house 2 1 1 1 1")
        self.check_wrong(other, "keys 0", "house")
        other.do("house 2 1 2 1 1")
        one.do("keys 0")
        self.check_wrong(other, "life", "keys")
        self.assertEqual(other.do("keys 1"), "keys 0 to 1")
        self.assertEqual(one.do("life"), "keys 0")


class Compared(Case):
    """A desk tells what the second store tells of the life that it has had."""

    def check_state(self, desk, house, life, coins):
        model = told(house, "true", life, coins)
        self.assertEqual(desk.do("life"), life_text(life))
        for drawer in range(house[2]):
            cells = viewed(house, "true", life, coins, drawer, (len(coins),))[0][0]
            self.assertEqual(desk.do("look %d" % drawer), " ".join(
                "-" if held is None else "%d:%d=%d" % (held[0], held[1], held[3])
                for held in cells))
            if drawer in model["waiting"]:
                row = ",".join(map(str, model["waiting"][drawer])) or "none"
                self.assertEqual(desk.do("wait %d" % drawer), row)
            else:
                self.check_wrong(desk, "wait %d" % drawer, "refused")
            for page in range(house[3]):
                line = "get %d %d" % (drawer, page)
                if (drawer, page) not in model["read"]:
                    self.check_wrong(desk, line, "refused")
                else:
                    known = model["read"][drawer, page]
                    self.assertEqual(desk.do(line), str(known[1]) if known else "none")

    def check_moment(self, desk, dice, house, life, coins):
        """Put some deeds and seal, and return the life and the coins behind it."""
        deepest, story = life[-1]
        deeds = tuple(
            (dice.randint(0, deepest), dice.randrange(house[3]), dice.randrange(10))
            for _ in range(dice.randint(0, 3)))
        for many, deed in enumerate(deeds, 1):
            self.assertEqual(desk.do("put %d %d %d" % deed), str(many))
        self.check_state(desk, house, life, coins)
        coin = dice.randrange(len(list(rows_of_coins(house, 1))))
        life = (*life[:-1], (deepest, (*story, deeds)))
        coins = (*coins, coin)
        fresh = told(house, "true", life, coins)["sets"][-1]
        self.assertEqual(desk.do("seal %d" % coin), ",".join(map(str, fresh)))
        return life, coins

    def test_random_lives(self):
        dice = random.Random(41)
        for _ in range(40):
            house = random_house(dice)
            desk = desk_behind("house %d %d %d %d %d" % house)
            life, coins = (), ()
            for _ in range(dice.randint(1, 4)):
                deepest = dice.randrange(house[2])
                self.assertEqual(desk.do("keys %d" % deepest), "keys 0 to %d" % deepest)
                life = (*life, (deepest, ()))
                for _ in range(dice.randint(0, 4)):
                    life, coins = self.check_moment(desk, dice, house, life, coins)
                self.check_state(desk, house, life, coins)


class WrongLines(Case):
    def desks(self):
        """A desk without a house, one without a session, and one with both."""
        return [
            (Desk(), "house"), (desk_behind("house 3 1 2 1 1"), "keys"),
            (desk_behind("house 3 1 2 1 1", "keys 0"), None),
        ]

    def test_words(self):
        values = [*STRANGE, b"life", ["life"], ("life",), "", " ", "LIFE", "lif", "life ", " life",
                  "life 0", "life\n", "lifelife", "get", "keys", "put", "None", "do life"]
        for line in RIGHT[:-1]:
            values += [line + " ", " " + line, line + " 0", line[:-2], line.upper(), line + "\n",
                       line.replace(" ", "  ", 1), line.replace(" ", "\t", 1), line + "x",
                       line[:-1] + "-1", line[:-1] + "+1", line[:-1] + "1.0", line[:-1] + "1_0",
                       line[:-1] + "x", line[:-1], line[:-1] + "\u0661", line[:-1] + "\u00b9",
                       line[:-1] + "0000001", line[:-1] + "1000000", line[:-1] + "1" * 5000]
        for desk, _ in self.desks():
            for value in values:
                self.check_wrong(desk, value, "words")

    def test_what_needs_a_house_or_a_session(self):
        for desk, word in self.desks():
            for line in RIGHT[2:]:
                if word is not None:
                    self.check_wrong(desk, line, word)
        self.check_wrong(Desk(), "keys 0", "house")

    def test_what_needs_a_house_ahead_of_what_is_refused(self):
        for line in ("keys 9", "put 9 9 99", "seal 999999", "get 9 9", "wait 9", "look 9"):
            self.check_wrong(Desk(), line, "house")
        for line in ("put 9 9 99", "seal 999999", "get 9 9", "wait 9", "look 9"):
            self.check_wrong(desk_behind("house 3 1 2 1 1"), line, "keys")
        self.check_wrong(desk_behind("house 3 1 2 1 1"), "keys 9", "refused")

    def test_no_house(self):
        for numbers in ("1 1 2 1 1", "13 1 2 1 1", "3 0 2 1 1", "3 4 2 1 1", "3 1 0 1 1", "3 1 5 1 1",
                        "3 1 2 0 1", "3 1 2 7 1", "3 1 2 1 0", "3 1 2 1 4", "999999 1 1 1 1"):
            self.check_wrong(Desk(), "house " + numbers, "refused")
            desk = desk_behind("house 3 1 2 1 1", "keys 1", "put 1 0 5", "seal 0", "put 0 0 1")
            self.check_wrong(desk, "house " + numbers, "refused")
            self.check_all(desk, [
                ("put 0 0 2", "2"), ("life", "keys 1 / 1:0=5"), ("look 1", "1:0=5 - -")])

    def test_a_refused_house_is_no_house(self):
        desk = Desk()
        self.check_wrong(desk, "house 1 1 1 1 1", "refused")
        self.check_wrong(desk, "keys 0", "house")

    def test_refused(self):
        for line in (
            "keys 2", "keys 999999", "put 1 0 5", "put 2 0 5", "put 0 1 5", "put 0 0 10", "seal 3",
            "seal 999999", "get 1 0", "get 2 0", "get 0 1", "wait 1", "wait 2", "look 2", "look 999999",
        ):
            desk = desk_behind("house 3 1 2 1 1", "keys 0", "put 0 0 4", "seal 1", "put 0 0 5")
            self.check_wrong(desk, line, "refused")
            # Nothing was done: the deed still stands, and the session goes on.
            self.check_all(desk, [
                ("life", "keys 0 / 0:0=4"), ("look 1", "- 0:0=4 -"), ("put 0 0 6", "2"),
                ("seal 0", "0"), ("look 0", "0:0=6 0:0=4 -"), ("life", "keys 0 / 0:0=4 / 0:0=5 0:0=6"),
            ])

    def test_a_refused_seventh_session_leaves_the_deeds(self):
        desk = desk_behind("house 3 1 2 1 1", *["keys 0"] * 5, "keys 1", "put 1 0 3")
        self.check_wrong(desk, "keys 0", "refused")
        self.check_all(desk, [("put 1 0 4", "2"), ("seal 0", "0"), ("get 1 0", "4")])

    def test_wrong_words_leave_everything(self):
        desk = desk_behind("house 3 1 2 1 1", "keys 1", "put 1 0 3")
        for line in (None, "seal", "seal x", "keys", "house 2 1 1 1", "put 1 0"):
            self.check_wrong(desk, line, "words")
        self.check_all(desk, [("seal 0", "0"), ("life", "keys 1 / 1:0=3")])


if __name__ == "__main__":
    unittest.main()
