"""Promises [2] and [3], and the section of the interface on handrounds/rounds/rounds.py."""

import unittest

from handrounds.errors import BadRound, BadStop
from handrounds.rounds.couriers import Courier
from handrounds.rounds.rounds import Round
from samples import BILLION, EIGHT, NAMES, NO_NAMES


def both_ways(period, stops):
    """The two ways to make the same round."""
    return (lambda: Round(period, *stops)), (lambda: Round.of(period, stops))


class RoundCase(unittest.TestCase):
    def assert_bad_stop(self, index, period, stops):
        for make in both_ways(period, stops):
            with self.subTest(period=period, stops=stops), self.assertRaises(BadStop) as caught:
                make()
            self.assertEqual(caught.exception.index, index)

    def assert_bad_period(self, period, stops):
        for make in both_ways(period, stops):
            with self.subTest(period=period, stops=stops), self.assertRaises(BadRound) as caught:
                make()
            self.assertEqual(caught.exception.part, "period")

    def assert_right(self, period, stops):
        for make in both_ways(period, stops):
            with self.subTest(period=period, stops=stops):
                told = make()
                self.assertIs(type(told), Round)
                self.assertEqual((told.period, told.stops), (period, stops))
                self.assertIs(type(told.stops), tuple)


class Making(RoundCase):
    def test_ordinary_rounds(self):
        self.assert_right(6, ((0, "mill"), (2, "port")))
        self.assert_right(4, ((3, "mill"),))

    def test_none_one_and_eight_stops(self):
        self.assert_right(5, ())
        self.assert_right(5, ((2, "mill"),))
        self.assert_right(22, EIGHT)
        self.assert_right(8, tuple((tick, "mill") for tick in range(8)))

    def test_least_and_greatest_period(self):
        self.assert_right(1, ())
        self.assert_right(1, ((0, "mill"),))
        self.assert_right(BILLION, ())
        self.assert_right(BILLION, ((0, "mill"), (BILLION - 1, "port")))

    def test_ticks_side_by_side(self):
        self.assert_right(3, ((0, "a"), (1, "b"), (2, "a")))

    def test_every_name_is_a_place(self):
        for name in NAMES:
            self.assert_right(2, ((1, name),))

    def test_by_keyword(self):
        self.assertEqual(Round(period=7), Round(7))
        self.assertEqual(Round.of(period=7, stops=((1, "mill"),)), Round(7, (1, "mill")))
        self.assertEqual(Round.of(stops=(), period=7), Round(7))

    def test_of_on_an_object(self):
        self.assertEqual(Round(3).of(7, ((1, "mill"),)), Round(7, (1, "mill")))

    def test_most_stops(self):
        self.assertEqual(Round.MOST_STOPS, 8)
        self.assertEqual(Round(3).MOST_STOPS, 8)
        self.assertNotIn("MOST_STOPS", vars(Round(3)))

    def test_arguments_do_not_change(self):
        stops = ((0, "mill"), (2, "port"))
        Round.of(6, stops)
        Round(6, *stops)
        self.assertEqual(stops, ((0, "mill"), (2, "port")))

    def test_two_rounds_do_not_share_anything(self):
        one, two = Round(6, (0, "mill")), Round(7, (1, "port"))
        self.assertEqual((one.period, one.stops), (6, ((0, "mill"),)))
        self.assertEqual((two.period, two.stops), (7, ((1, "port"),)))


class BadPeriods(RoundCase):
    def test_out_of_range(self):
        for period in (0, -1, -6, -BILLION, -(10 ** 30), BILLION + 1, 10 ** 30):
            self.assert_bad_period(period, ())
            self.assert_bad_period(period, ((0, "mill"),))

    def test_before_all_wrong_stops(self):
        for period in (0, -1, BILLION + 1):
            self.assert_bad_period(period, ((-1, "mill"),))
            self.assert_bad_period(period, ((0, ""), (0, "Mill")))
            self.assert_bad_period(period, EIGHT + ((21, "mill"), (22, "")))


class BadStops(RoundCase):
    def test_tick_below_zero(self):
        for tick in (-1, -2, -6, -(10 ** 30)):
            self.assert_bad_stop(0, 6, ((tick, "mill"),))
            self.assert_bad_stop(0, 6, ((tick, "mill"), (2, "port")))
            self.assert_bad_stop(1, 6, ((2, "mill"), (tick, "port")))

    def test_tick_at_the_period_or_above(self):
        for tick in (6, 7, 12, 10 ** 30):
            self.assert_bad_stop(0, 6, ((tick, "mill"),))
            self.assert_bad_stop(1, 6, ((5, "mill"), (tick, "port")))
        self.assert_bad_stop(0, 1, ((1, "mill"),))
        self.assert_bad_stop(0, BILLION, ((BILLION, "mill"),))

    def test_tick_equal_to_the_one_before(self):
        self.assert_bad_stop(1, 6, ((0, "mill"), (0, "port")))
        self.assert_bad_stop(1, 6, ((0, "mill"), (0, "mill")))
        self.assert_bad_stop(2, 6, ((0, "mill"), (5, "port"), (5, "mill")))

    def test_tick_less_than_the_one_before(self):
        self.assert_bad_stop(1, 6, ((2, "mill"), (1, "port")))
        self.assert_bad_stop(2, 9, ((1, "mill"), (8, "port"), (7, "mill")))
        self.assert_bad_stop(2, 9, ((1, "mill"), (8, "port"), (0, "mill")))

    def test_place_that_is_no_name(self):
        for place in NO_NAMES:
            self.assert_bad_stop(0, 6, ((0, place),))
            self.assert_bad_stop(1, 6, ((0, "mill"), (1, place), (2, "port")))

    def test_the_ninth_stop(self):
        self.assert_bad_stop(8, 30, EIGHT + ((24, "mill"),))
        self.assert_bad_stop(8, 30, EIGHT + ((24, "mill"), (25, "port")))
        self.assert_bad_stop(8, 30, EIGHT + ((24, ""),))
        self.assert_bad_stop(8, 30, EIGHT + ((21, "mill"), (30, "port")))
        self.assert_bad_stop(8, 30, tuple((tick, "mill") for tick in range(20)))

    def test_a_wrong_stop_ahead_of_the_ninth(self):
        for index in range(8):
            for wrong in ((-1, "mill"), (30, "mill"), (EIGHT[index - 1][0], "Mill"), (EIGHT[index][0], "")):
                stops = EIGHT[:index] + (wrong,) + EIGHT[index + 1:] + ((24, "mill"),)
                self.assert_bad_stop(index, 30, stops)

    def test_the_first_of_several(self):
        self.assert_bad_stop(0, 6, ((0, ""), (0, ""), (7, "mill")))
        self.assert_bad_stop(1, 6, ((0, "mill"), (1, ""), (1, "port"), (9, "mill")))
        self.assert_bad_stop(0, 6, ((7, "mill"), (3, "")))
        self.assert_bad_stop(1, 6, ((5, "mill"), (3, "port"), (4, "")))


class Places(unittest.TestCase):
    def test_ascending_and_each_once(self):
        told = Round(9, (0, "port"), (2, "mill"), (3, "port"), (5, "ford"), (8, "mill"))
        self.assertEqual(told.places, ("ford", "mill", "port"))
        self.assertIs(type(told.places), tuple)

    def test_none_one_and_eight(self):
        self.assertEqual(Round(5).places, ())
        self.assertEqual(Round(5, (4, "mill")).places, ("mill",))
        backwards = tuple((tick, "hgfedcba"[tick]) for tick in range(8))
        self.assertEqual(Round.of(8, backwards).places, tuple("abcdefgh"))

    def test_in_pythons_own_order(self):
        self.assertEqual(Round(4, (0, "b"), (1, "ab"), (2, "a"), (3, "aa")).places, ("a", "aa", "ab", "b"))

    def test_the_same_again_without_a_change(self):
        told = Round(6, (0, "port"), (2, "mill"))
        self.assertEqual(told.places, told.places)
        self.assertEqual((told.period, told.stops), (6, ((0, "port"), (2, "mill"))))
        self.assertIsInstance(Round.places, property)


class Shown(unittest.TestCase):
    def test_repr(self):
        self.assertEqual(repr(Round(6, (0, "mill"), (2, "port"))), "Round(6: 0:mill 2:port)")
        self.assertEqual(repr(Round(4, (3, "mill"))), "Round(4: 3:mill)")
        self.assertEqual(repr(Round(22, *EIGHT)), "Round(22: 0:a 3:b 6:c 9:d 12:e 15:f 18:g 21:h)")
        self.assertEqual(repr(Round(BILLION, (BILLION - 1, "z"))), "Round(1000000000: 999999999:z)")

    def test_repr_without_stops(self):
        self.assertEqual(repr(Round(1)), "Round(1)")
        self.assertEqual(repr(Round(BILLION)), "Round(1000000000)")

    def test_in_an_f_string_and_in_a_list(self):
        told = Round(6, (0, "mill"))
        self.assertEqual(f"{told} {[told]}", "Round(6: 0:mill) [Round(6: 0:mill)]")

    def test_len(self):
        self.assertEqual([len(Round(9, *[(tick, "a") for tick in range(many)])) for many in range(9)], list(range(9)))


class Equal(unittest.TestCase):
    def test_equal_attributes(self):
        one = Round(6, (0, "mill"), (2, "port"))
        self.assertTrue(one == Round(6, (0, "mill"), (2, "port")))
        self.assertFalse(one != Round(6, (0, "mill"), (2, "port")))
        self.assertTrue(one == Round.of(6, ((0, "mill"), (2, "port"))))
        self.assertTrue(Round(6) == Round(6))

    def test_other_attributes(self):
        one = Round(6, (0, "mill"), (2, "port"))
        for other in (Round(7, (0, "mill"), (2, "port")), Round(6, (0, "mill"), (3, "port")),
                      Round(6, (0, "mill"), (2, "ford")), Round(6, (0, "mill")), Round(6),
                      Round(6, (0, "mill"), (2, "port"), (3, "mill")), Round(6, (0, "port"), (2, "mill"))):
            with self.subTest(other=other):
                self.assertFalse(one == other)
                self.assertTrue(one != other)
        self.assertFalse(Round(6) == Round(7))

    def test_other_kinds(self):
        one = Round(6, (0, "mill"))
        way = ((0, "mill"),)
        for other in (6, 1, "Round(6: 0:mill)", None, True, (6, way), [6, way], {6: way}, b"", Round,
                      Courier("anna", one, 0, 0), object()):
            with self.subTest(other=other):
                self.assertIs(one == other, False)
                self.assertIs(other == one, False)
                self.assertIs(one != other, True)

    def test_answers_are_true_or_false(self):
        self.assertIs(Round(6) == Round(6), True)
        self.assertIs(Round(6, (1, "a")) == Round(6), False)


if __name__ == "__main__":
    unittest.main()
