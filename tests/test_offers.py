"""Promises 2.1 to 2.3: offers, their times and prices, the least for a rate, smoothed and cut."""

import unittest
from fractions import Fraction

from hurryprice.errors import NoTime
from hurryprice.offers import cut_at, is_offer, is_offered, least_with, price_of_time, smoothed
from tests.asking import Asking, chance, frac, part, steps, straight, things_of_every_kind
from tests.samples import random_offer

FIVE = straight((10, 0), (8, 1), (6, 3), (5, 5), (0, 20))
HALVES = straight(("7/2", "1/3"), ("5/2", "4/3"), ("1/2", "16/3"))
UNEVEN = steps((9, 1), (7, 10), (4, 11), (2, 30), (1, "61/2"))
ONE = straight((3, 2))
ONE_STEP = steps((3, 2))
OFFERS = [FIVE, HALVES, UNEVEN, ONE, ONE_STEP, straight((0, 0)), steps((4, 0), (0, 9))]


def random_offers(seed, kind, many):
    source = chance(seed)
    return [random_offer(source, kind) for number in range(many)]


def way_price(corners, time):
    """The price at a time on the straight ways through these corners, reckoned with Python's own fractions."""
    points = [(frac(one), frac(price)) for one, price in corners]
    for (long, low), (quick, high) in zip(points, points[1:] + points[-1:]):
        if quick <= time <= long:
            return low if long == quick else low + (high - low) * (long - time) / (long - quick)
    raise AssertionError("outside")


class TestIsOffer(Asking):
    def offers(self, yes, no):
        for thing in yes:
            self.assertIs(self.asked(is_offer, thing), True, repr(thing))
        for thing in no:
            self.assertIs(self.asked(is_offer, thing), False, repr(thing))

    def test_offers_of_one_to_five_corners(self):
        self.offers(OFFERS, [])
        for many in range(1, 6):
            self.offers([("straight", FIVE[1][:many]), ("steps", FIVE[1][:many]), ("steps", UNEVEN[1][:many])], [])
        self.offers(random_offers(1, "straight", 40) + random_offers(2, "steps", 40), [])

    def test_none_and_six_corners(self):
        six = FIVE[1][:4] + [((3, 1), (10, 1)), ((0, 1), (50, 1))]
        self.offers([("straight", six[:5]), ("straight", six[1:])], [("straight", six), ("steps", six)])
        self.offers([], [("straight", []), ("steps", [])])

    def test_a_list_where_a_tuple_stands_and_the_other_way_round(self):
        corners = [((3, 1), (2, 1))]
        self.offers([("steps", corners)], [["steps", corners], ("steps", tuple(corners))])
        self.offers([], [("steps", [[(3, 1), (2, 1)]]), ("steps", ((3, 1), (2, 1)))])
        self.offers([], [("steps", [([3, 1], (2, 1))]), ("steps", [((3, 1), [2, 1])]), ("steps", {0: corners[0]})])

    def test_kinds(self):
        corners = [((3, 1), (2, 1))]
        wrong = ["", "step", "Steps", "STRAIGHT", "straight ", "stepss", b"steps", None, True, 0, ("steps",), ["steps"]]
        for kind in wrong:
            self.offers([], [(kind, corners)])
        self.offers([], [("steps",), ("steps", corners, corners), ("steps", corners[0])])
        self.offers([], [("steps", None), (corners, "steps")])

    def test_corners_out_of_order(self):
        up = ((2, 1), (5, 1))
        for kind in ("straight", "steps"):
            self.offers([(kind, [((3, 1), (2, 1)), up])], [])
            for first in [((1, 1), (2, 1)), ((2, 1), (2, 1)), ((3, 1), (5, 1)), ((3, 1), (6, 1)), up]:
                self.offers([], [(kind, [first, up])])

    def test_corners_from_nought_on(self):
        self.offers([steps((0, 0)), straight((1, 0), (0, 1))], [])
        self.offers([], [steps((-1, 0)), steps((0, -1)), straight(("-1/9", 1)), steps((1, "-1/2"), (0, 1))])
        self.offers([], [steps((1, 0), ("-1/2", 1)), straight((1, 0), (-1, 1))])

    def test_what_is_no_corner(self):
        for thing in things_of_every_kind() + [((1, 1), (1, 1), (1, 1)), ((1, 1),), (1, 1), ((2, 2), (1, 1))]:
            for kind in ("straight", "steps"):
                self.assertIs(is_offer((kind, [thing])), False)
                self.assertIs(is_offer((kind, [((9, 1), (0, 1)), thing])), False)
        for thing in things_of_every_kind():
            self.assertIs(is_offer(("steps", [(thing, (1, 1))])), False)
            self.assertIs(is_offer(("steps", [((1, 1), thing)])), False)

    def test_rates_that_are_not_greater(self):
        self.offers([straight((4, 0), (3, 1), (2, "201/100"))], [straight((4, 0), (3, 1), (2, 2))])
        self.offers([steps((4, 0), (3, 1), (2, 2))], [straight((4, 0), (3, 2), (2, 3))])
        self.offers([], [straight((9, 0), (8, 1), (7, 3), (6, 5), (5, 9))])
        self.offers([], [straight((9, 0), (8, 1), (7, 3), (6, 6), (5, 9))])
        self.offers([steps((4, 0), (3, 2), (2, 3))], [straight((4, 0), (2, 4), (1, 6))])

    def test_things_of_every_kind_are_none(self):
        for thing in things_of_every_kind():
            self.assertIs(is_offer(thing), False)
            self.assertIs(is_offer((thing, [((1, 1), (1, 1))])), False)
            self.assertIs(is_offer(("steps", thing)), False)


class TestTimes(Asking):
    def test_a_straight_offer_at_its_corners_and_between(self):
        for time, price in ((10, 0), (8, 1), (6, 3), (5, 5), (0, 20)):
            self.assertEqual(self.asked(price_of_time, FIVE, (time, 1)), (price, 1))
        self.assertEqual(self.asked(price_of_time, FIVE, (9, 1)), (1, 2))
        self.assertEqual(self.asked(price_of_time, FIVE, (7, 1)), (2, 1))
        self.assertEqual(self.asked(price_of_time, FIVE, (11, 2)), (4, 1))
        self.assertEqual(self.asked(price_of_time, FIVE, (1, 3)), (19, 1))
        self.assertEqual(self.asked(price_of_time, HALVES, (1, 1)), (13, 3))

    def test_a_straight_offer_just_outside(self):
        little = Fraction(1, 10 ** 59)
        for offer in (FIVE, HALVES, ONE):
            for time, way in ((offer[1][0][0], 1), (offer[1][-1][0], -1)):
                self.assertIs(self.asked(is_offered, offer, time), True)
                beyond = part(frac(time) + way * little)
                self.assertIs(self.asked(is_offered, offer, beyond), False)
                self.refused(NoTime, price_of_time, offer, beyond)
        self.refused(NoTime, price_of_time, straight((3, 0), (0, 1)), (-1, 1))

    def test_steps_offer_corners_alone(self):
        for time, price in UNEVEN[1]:
            self.assertIs(self.asked(is_offered, UNEVEN, time), True)
            self.assertEqual(self.asked(price_of_time, UNEVEN, time), price)
        for time in ((10, 1), (8, 1), (5, 1), (3, 2), (0, 1), (-1, 1), (13, 7)):
            self.assertIs(self.asked(is_offered, UNEVEN, time), False)
            self.refused(NoTime, price_of_time, UNEVEN, time)

    def test_one_corner(self):
        for offer in (ONE, ONE_STEP):
            self.assertEqual(self.asked(price_of_time, offer, (3, 1)), (2, 1))
            for time in ((2, 1), (4, 1), (0, 1)):
                self.assertIs(self.asked(is_offered, offer, time), False)
                self.refused(NoTime, price_of_time, offer, time)

    def test_random_straight_offers(self):
        for offer in random_offers(3, "straight", 30):
            times = [frac(time) for time, price in offer[1]]
            for share in range(0, 12):
                time = times[-1] + (times[0] - times[-1]) * Fraction(share, 11)
                self.assertIs(is_offered(offer, part(time)), True)
                self.assertEqual(price_of_time(offer, part(time)), part(way_price(offer[1], time)))


class TestLeast(Asking):
    def test_least_for_a_rate(self):
        self.assertEqual(self.asked(least_with, FIVE, (0, 1)), (0, 1))
        self.assertEqual(self.asked(least_with, FIVE, (1, 2)), (5, 1))
        self.assertEqual(self.asked(least_with, FIVE, (3, 4)), (7, 1))
        self.assertEqual(self.asked(least_with, FIVE, (100, 1)), (20, 1))
        self.assertEqual(self.asked(least_with, UNEVEN, (3, 1)), (23, 1))
        self.assertEqual(self.asked(least_with, ONE, (5, 2)), (19, 2))

    def test_it_is_the_least_over_all_offered_times(self):
        for offer in random_offers(4, "straight", 20) + random_offers(5, "steps", 20):
            for rate in (Fraction(0), Fraction(1, 3), Fraction(2), Fraction(17, 2), Fraction(90)):
                costs = [frac(price) + rate * frac(time) for time, price in offer[1]]
                self.assertEqual(least_with(offer, part(rate)), part(min(costs)))
                if offer[0] == "straight":
                    long, quick = frac(offer[1][0][0]), frac(offer[1][-1][0])
                    between = [quick + (long - quick) * Fraction(share, 9) for share in range(10)]
                    self.assertLessEqual(min(costs), min(way_price(offer[1], time) + rate * time for time in between))


class TestSmoothed(Asking):
    def test_a_straight_offer_stays(self):
        for offer in (FIVE, HALVES, ONE):
            self.assertEqual(self.asked(smoothed, offer), offer)

    def test_a_corner_on_the_straight_way_goes(self):
        self.assertEqual(self.asked(smoothed, steps((4, 0), (3, 1), (2, 2))), straight((4, 0), (2, 2)))
        self.assertEqual(self.asked(smoothed, steps((4, 0), (3, 1), (2, 2), (1, 3), (0, 4))), straight((4, 0), (0, 4)))

    def test_a_corner_above_it_goes(self):
        self.assertEqual(self.asked(smoothed, steps((4, 0), (3, 2), (2, 3))), straight((4, 0), (2, 3)))
        self.assertEqual(self.asked(smoothed, UNEVEN), straight((9, 1), (4, 11), (1, "61/2")))

    def test_a_corner_below_it_stays(self):
        self.assertEqual(self.asked(smoothed, steps((4, 0), (3, 1), (2, 3))), straight((4, 0), (3, 1), (2, 3)))
        self.assertEqual(self.asked(smoothed, steps((4, 0), (0, 9))), straight((4, 0), (0, 9)))
        self.assertEqual(self.asked(smoothed, ONE_STEP), ONE)

    def test_a_late_corner_sends_several_away(self):
        made = self.asked(smoothed, steps((10, 0), (9, 10), (8, 21), (7, 33), (6, 34)))
        self.assertEqual(made, straight((10, 0), (6, 34)))

    def test_random_steps(self):
        for offer in random_offers(6, "steps", 80):
            made = self.asked(smoothed, offer)
            self.assertEqual(made[0], "straight")
            self.assertIs(is_offer(made), True)
            self.assertEqual([corner for corner in offer[1] if corner in made[1]], made[1])
            self.assertEqual((made[1][0], made[1][-1]), (offer[1][0], offer[1][-1]))
            for time, price in offer[1]:
                self.assertLessEqual(way_price(made[1], frac(time)), frac(price))


class TestCut(Asking):
    def test_straight_at_a_corner_and_between(self):
        self.assertEqual(self.asked(cut_at, FIVE, (6, 1)), straight((10, 0), (8, 1), (6, 3)))
        self.assertEqual(self.asked(cut_at, FIVE, (7, 1)), straight((10, 0), (8, 1), (7, 2)))
        self.assertEqual(self.asked(cut_at, FIVE, (9, 1)), straight((10, 0), (9, "1/2")))
        self.assertEqual(self.asked(cut_at, FIVE, (10, 1)), straight((10, 0)))

    def test_straight_at_and_below_the_quick_time(self):
        for time in ((1, 2), (1, 3), (0, 1)):
            self.assertEqual(self.asked(cut_at, HALVES, time), HALVES)
        self.assertEqual(self.asked(cut_at, FIVE, (0, 1)), FIVE)

    def test_above_the_long_time(self):
        self.assertEqual(self.asked(cut_at, FIVE, (21, 2)), straight(("21/2", 0)))
        self.assertEqual(self.asked(cut_at, UNEVEN, (10, 1)), steps((10, 1)))
        self.assertEqual(self.asked(cut_at, ONE, (4, 1)), straight((4, 2)))
        self.assertEqual(self.asked(cut_at, ONE_STEP, (4, 1)), steps((4, 2)))

    def test_steps(self):
        self.assertEqual(self.asked(cut_at, UNEVEN, (9, 1)), steps((9, 1)))
        self.assertEqual(self.asked(cut_at, UNEVEN, (8, 1)), steps((9, 1)))
        self.assertEqual(self.asked(cut_at, UNEVEN, (7, 1)), steps((9, 1), (7, 10)))
        self.assertEqual(self.asked(cut_at, UNEVEN, (3, 2)), steps((9, 1), (7, 10), (4, 11), (2, 30)))
        for time in ((1, 1), (1, 2), (0, 1)):
            self.assertEqual(self.asked(cut_at, UNEVEN, time), UNEVEN)

    def test_one_corner(self):
        for offer in (ONE, ONE_STEP):
            for time in ((3, 1), (2, 1), (0, 1)):
                self.assertEqual(self.asked(cut_at, offer, time), offer)

    def test_random_offers(self):
        for offer in random_offers(7, "straight", 30) + random_offers(8, "steps", 30):
            long, quick = frac(offer[1][0][0]), frac(offer[1][-1][0])
            for share in range(0, 9):
                time = quick + (long - quick) * Fraction(share, 8)
                made = self.asked(cut_at, offer, part(time))
                self.assertEqual(made[0], offer[0])
                self.assertIs(is_offer(made), True)
                if offer[0] == "straight":
                    self.assertEqual(made[1][-1], (part(time), part(way_price(offer[1], time))))
                for corner in offer[1]:
                    self.assertEqual(corner in made[1], frac(corner[0]) >= time)


if __name__ == "__main__":
    unittest.main()
