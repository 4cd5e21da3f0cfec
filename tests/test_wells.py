"""wells.py, promise [4], with the limits and conventions of [2] and [3]."""

import unittest

from samples import BIG, HUGE, LARGE_WELL, ONE_GROUP, WELL_OF_LISTS, well
from wellfolk.errors import UnknownGroup
from wellfolk.wells import empty_state, is_state, is_well, total_size, weight_of


class Both(unittest.TestCase):

    def assert_true(self, answer):
        self.assertIs(answer, True)

    def assert_false(self, answer):
        self.assertIs(answer, False)


class IsWellTest(Both):

    def test_example(self):
        self.assert_true(is_well(well))

    def test_wells(self):
        for value in (ONE_GROUP, LARGE_WELL, (1, ((7, 3),)), (7, ((7, 3), (8, 1))),
                      (1, ((1, 5), (2, 4), (100, 1)))):
            with self.subTest(value):
                self.assert_true(is_well(value))

    def test_no_limits_apply(self):
        self.assert_true(is_well((HUGE, ((HUGE, HUGE), (HUGE + 1, HUGE)))))
        self.assert_true(is_well((1, tuple((k, 1) for k in range(1, 14)))))
        self.assert_true(is_well((1, tuple((k, 1) for k in range(1, 2001)))))

    def test_the_limit_is_at_least_one(self):
        for limit in (0, -1, -HUGE):
            with self.subTest(limit):
                self.assert_false(is_well((limit, ((2, 2),))))

    def test_weights_and_sizes_are_at_least_one(self):
        for group in ((0, 1), (-1, 1), (1, 0), (1, -1), (0, 0), (-HUGE, 1), (1, -HUGE)):
            with self.subTest(group):
                self.assert_false(is_well((3, (group,))))
                self.assert_false(is_well((3, (group, (9, 1)))))
        self.assert_false(is_well((3, ((2, 2), (3, 0)))))
        self.assert_false(is_well((3, ((2, 2), (3, -1), (5, 1)))))

    def test_there_is_at_least_one_group(self):
        self.assert_false(is_well((3, ())))

    def test_weights_ascend_strictly(self):
        for groups in (((2, 2), (2, 2)), ((2, 2), (2, 1)), ((3, 1), (2, 2)),
                       ((2, 2), (5, 2), (3, 1)), ((2, 2), (3, 1), (3, 1)),
                       ((2, 1), (3, 1), (2, 1)), ((1, 1), (9, 1), (5, 1), (9, 1))):
            with self.subTest(groups):
                self.assert_false(is_well((3, groups)))

    def test_lists_are_not_tuples(self):
        for value in (WELL_OF_LISTS, [3, ((2, 2), (3, 1))], (3, [(2, 2), (3, 1)]),
                      (3, ([2, 2], (3, 1))), (3, ((2, 2), [3, 1])), (3, []),
                      (3, [[2, 2]])):
            with self.subTest(value):
                self.assert_false(is_well(value))

    def test_booleans_are_not_numbers(self):
        for value in ((True, ((2, 2),)), (False, ((2, 2),)), (3, ((True, 2),)),
                      (3, ((2, True),)), (3, ((2, False),)), (True, ((True, True),)),
                      (3, ((2, 2), (3, True)))):
            with self.subTest(value):
                self.assert_false(is_well(value))

    def test_missing_repeated_and_exchanged_parts(self):
        groups = ((2, 2), (3, 1))
        for value in ((), (3,), (groups,), (groups, 3), (3, groups, 3), (3, groups, groups),
                      (3, 3, groups), (3, 3), (groups, groups), ((3, groups),), groups,
                      (3, (2, 2)), (3, (2, 2), (3, 1)), (3, ((2,),)), (3, ((2, 2, 2),)),
                      (3, ((),)), (3, ((2, 2), ())), (3, (groups,)), (3, ((2, (2,)),)),
                      (3, (((2,), 2),)), (3, ((2, 2), 3)), ((3,), groups)):
            with self.subTest(value):
                self.assert_false(is_well(value))

    def test_other_kinds(self):
        for value in (None, True, False, 0, 3, -1, HUGE, "", "3", "3 2*2 / 0", [], [None],
                      (None, None), (None, ((2, 2),)), (3, None), (3, (None,)),
                      (3, ((None, 2),)), (3, ((2, None),)), ("3", ((2, 2),)), (3, "ab"),
                      (3, ("ab",)), (3, ("22",)), (3, (("2", 2),)), (3, ((2, "2"),)), "ab",
                      (3, 2), (3, ""), (3, ((2, 2), None)), (3, ((2, 2), "ab"))):
            with self.subTest(value):
                self.assert_false(is_well(value))

    def test_eight_levels(self):
        value = 3
        for _ in range(8):
            value = (value, value)
            self.assert_false(is_well(value))
            self.assert_false(is_well((3, value)))

    def test_by_name(self):
        self.assert_true(is_well(value=well))

    def test_value_is_not_changed(self):
        value = [3, [[2, 2]]]
        self.assert_false(is_well(value))
        self.assertEqual(value, [3, [[2, 2]]])


class IsStateTest(Both):

    def test_example(self):
        self.assert_true(is_state(well, (2, 0, 1, 0)))

    def test_states(self):
        for value in ((0, 0, 0, 0), (2, 1, 2, 1), (1, 1, 1, 1), (0, 0, 0, 1), (2, 0, 0, 0)):
            with self.subTest(value):
                self.assert_true(is_state(well, value))

    def test_one_group(self):
        self.assert_true(is_state(ONE_GROUP, (0,)))
        self.assert_true(is_state(ONE_GROUP, (1,)))
        for value in ((2,), (-1,), (), (0, 0), 0, [0], ((0,),)):
            with self.subTest(value):
                self.assert_false(is_state(ONE_GROUP, value))

    def test_each_number_is_within_its_group(self):
        for value in ((3, 0, 0, 0), (0, 2, 0, 0), (0, 0, 3, 0), (0, 0, 0, 2), (-1, 0, 0, 0),
                      (0, -1, 0, 0), (0, 0, -1, 0), (0, 0, 0, -1), (1, 2, 1, 0),
                      (HUGE, 0, 0, 0), (0, 0, 0, -HUGE)):
            with self.subTest(value):
                self.assert_false(is_state(well, value))

    def test_large_groups(self):
        self.assert_true(is_state(LARGE_WELL, (BIG,) * 12))
        self.assert_true(is_state(LARGE_WELL, (0,) * 11 + (BIG,)))
        self.assert_false(is_state(LARGE_WELL, (BIG,) * 11 + (BIG + 1,)))
        self.assert_false(is_state(LARGE_WELL, (BIG + 1,) + (BIG,) * 11))

    def test_there_is_one_number_for_each_group(self):
        for value in ((), (0,), (0, 0, 0), (0, 0, 0, 0, 0), (0, 0, 0, 0, 0, 0, 0, 0),
                      ((0, 0, 0, 0),), ((0, 0, 0, 0), (0, 0, 0, 0))):
            with self.subTest(value):
                self.assert_false(is_state(well, value))

    def test_other_kinds(self):
        for value in ([2, 0, 1, 0], [0, 0, 0, 0], [], None, True, False, 0, 1, "", "0000",
                      "0 0 0 0", (True, 0, 0, 0), (0, 0, 0, False), (False,) * 4, (None,) * 4,
                      (0, 0, 0, None), ("0", "0", "0", "0"), (0, 0, 0, ""), ((0,), 0, 0, 0),
                      (0, 0, 0, [0]), (0, 0, (), 0), well, (3, ((2, 2),))):
            with self.subTest(value):
                self.assert_false(is_state(well, value))

    def test_the_well_may_consist_of_lists(self):
        self.assert_true(is_state(WELL_OF_LISTS, (2, 0, 1, 0)))
        self.assert_false(is_state(WELL_OF_LISTS, [2, 0, 1, 0]))
        self.assert_false(is_state(WELL_OF_LISTS, (3, 0, 1, 0)))
        self.assert_true(is_state((3, [(2, 2), [3, 1]]), (2, 1)))

    def test_by_name(self):
        self.assert_true(is_state(well=well, value=(2, 0, 1, 0)))
        self.assert_true(is_state(value=(2, 0, 1, 0), well=well))

    def test_arguments_are_not_changed(self):
        given, value = [3, [[2, 2], [3, 1]]], [0, 1]
        is_state(given, value)
        self.assertEqual(given, [3, [[2, 2], [3, 1]]])
        self.assertEqual(value, [0, 1])


class WeightOfTest(unittest.TestCase):

    def assert_unknown(self, given, group):
        with self.assertRaises(UnknownGroup) as caught:
            weight_of(given, group)
        self.assertIs(type(caught.exception), UnknownGroup)
        self.assertIsInstance(caught.exception, LookupError)
        self.assertEqual(caught.exception.group, group)

    def test_examples(self):
        self.assertEqual(weight_of(well, 2), 5)
        self.assert_unknown(well, 4)

    def test_each_group(self):
        self.assertEqual([weight_of(well, k) for k in range(4)], [2, 3, 5, 9])
        self.assertEqual([weight_of(LARGE_WELL, k) for k in (0, 11)], [BIG - 11, BIG])

    def test_the_empty_basket(self):
        for given in (well, ONE_GROUP, LARGE_WELL, WELL_OF_LISTS):
            self.assertEqual(weight_of(given, -1), 0)

    def test_unknown_groups(self):
        for group in (5, 12, BIG, HUGE, -2, -3, -4, -5, -BIG, -HUGE):
            with self.subTest(group):
                self.assert_unknown(well, group)
        for group in (1, 2, -2):
            self.assert_unknown(ONE_GROUP, group)
        self.assertEqual(weight_of(ONE_GROUP, 0), 1)

    def test_lists_and_names(self):
        self.assertEqual(weight_of(WELL_OF_LISTS, 3), 9)
        self.assertEqual(weight_of(well=WELL_OF_LISTS, group=0), 2)
        self.assert_unknown(WELL_OF_LISTS, 4)
        self.assertEqual(WELL_OF_LISTS, [3, [[2, 2], [3, 1], [5, 2], [9, 1]]])


class TotalSizeTest(unittest.TestCase):

    def test_example(self):
        self.assertEqual(total_size(well), 6)

    def test_other_wells(self):
        self.assertEqual(total_size(ONE_GROUP), 1)
        self.assertEqual(total_size((5, ((5, 301),))), 301)
        self.assertEqual(total_size(LARGE_WELL), 12 * BIG)

    def test_lists_and_names(self):
        self.assertEqual(total_size(WELL_OF_LISTS), 6)
        self.assertEqual(total_size(well=well), 6)
        self.assertEqual(WELL_OF_LISTS, [3, [[2, 2], [3, 1], [5, 2], [9, 1]]])


class EmptyStateTest(unittest.TestCase):

    def test_example(self):
        self.assertEqual(empty_state(well), (0, 0, 0, 0))

    def test_other_wells(self):
        self.assertEqual(empty_state(ONE_GROUP), (0,))
        self.assertEqual(empty_state(LARGE_WELL), (0,) * 12)

    def test_it_is_a_state(self):
        for given in (well, ONE_GROUP, LARGE_WELL, WELL_OF_LISTS):
            self.assertIs(is_state(given, empty_state(given)), True)

    def test_lists_and_names(self):
        self.assertEqual(empty_state(WELL_OF_LISTS), (0, 0, 0, 0))
        self.assertEqual(empty_state(well=well), (0, 0, 0, 0))
        self.assertEqual(WELL_OF_LISTS, [3, [[2, 2], [3, 1], [5, 2], [9, 1]]])


if __name__ == "__main__":
    unittest.main()
