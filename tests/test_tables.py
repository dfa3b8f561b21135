"""Tables and their depth."""

import unittest

from bitfloor.errors import FloorError, NoTables
from bitfloor.tables import Tables, depth_of

GOOD = (
    ((), 1),
    ((("in", 0),), 2),
    ((("in", 2), ("keep", 1)), 15),
    ((("table", 0), ("table", 2), ("table", 0)), 255),
    ((("keep", 0), ("in", 1), ("table", 3), ("table", 1)), 65535),
)
KEEPS = ((0, ("table", 4)), (1, ("keep", 1)), (1, ("in", 2)))
OUTS = (("table", 3), ("in", 0), ("keep", 2), ("table", 3))

THINGS = (
    None, True, False, 0, 1, -1, 10 ** 30, "", "in", "table", [], (), {}, set(), object(), [("in", 0)], ["in", 0],
    ("in",), ("in", 0, 0), ("in", None), ("in", True), ("in", False), ("in", -1), ("in", 3), ("in", 10 ** 30),
    ("in", "0"), ("in", [0]), ("in", ("in", 0)), ("keep", 3), ("keep", -1), ("keep", True), ("table", 5), ("table", -1),
    ("table", False), ("IN", 0), (" in", 0), ("ins", 0), ("block", 0), ("", 0), (None, 0), (0, "in"), (("in",), 0),
    (["in"], 0), ({}, 0), ([], 0), (0, 0), (1, None), b"in", "in0", ("i", "n"), (0, ("in", 3)), ((), 2),
)


class MadeTest(unittest.TestCase):
    def test_fields(self):
        for kind in (list, tuple):
            tables = Tables(3, kind([(kind(leaves), bits) for leaves, bits in GOOD]), kind(KEEPS), kind(OUTS))
            self.assertEqual((tables.ins, tables.tables, tables.keeps, tables.outs), (3, GOOD, KEEPS, OUTS))
            for field in (tables.tables, tables.keeps, tables.outs):
                self.assertIsInstance(field, tuple)
                self.assertTrue(all(type(part) is tuple for part in field))
            self.assertTrue(all(type(leaves) is tuple for leaves, bits in tables.tables))

    def test_nothing(self):
        for nothing in ([], ()):
            tables = Tables(0, nothing, nothing, nothing)
            self.assertEqual((tables.ins, tables.tables, tables.keeps, tables.outs), (0, (), (), ()))

    def test_many_ins(self):
        self.assertEqual(Tables(10 ** 9, [], [], [("in", 10 ** 9 - 1)]).ins, 10 ** 9)

    def test_lists_may_be_changed_later(self):
        leaves = [("in", 0), ("in", 1)]
        tables = [(leaves, 6)]
        keeps = [(0, ("table", 0))]
        outs = [("keep", 0)]
        made = Tables(2, tables, keeps, outs)
        for thing in (leaves, tables, keeps, outs):
            thing.clear()
        self.assertEqual((made.tables, made.keeps, made.outs),
                         ((((("in", 0), ("in", 1)), 6),), ((0, ("table", 0)),), (("keep", 0),)))


class RefusedTest(unittest.TestCase):
    def assert_refused(self, ins, tables, keeps, outs):
        with self.assertRaises(NoTables, msg=str((ins, tables, keeps, outs))) as caught:
            Tables(ins, tables, keeps, outs)
        self.assertIs(type(caught.exception), NoTables)
        self.assertIsInstance(caught.exception, FloorError)

    def test_ins(self):
        for ins in (-1, -10 ** 30, None, True, False, "3", "", [], [0, 1, 2], (3,), {}):
            self.assert_refused(ins, [], [], [])
        for ins in (0, 1, 2):
            self.assert_refused(ins, GOOD, KEEPS, OUTS)

    def test_things_that_are_no_lists(self):
        for thing in (None, True, False, 0, 3, -1, "", "in", "tables", {}, {"in": 0}, object()):
            self.assert_refused(3, thing, KEEPS[1:2] * 3, [])
            self.assert_refused(3, GOOD[:2], thing, [])
            self.assert_refused(3, GOOD, KEEPS, thing)
            self.assert_refused(3, [(thing, 1)], [], [])

    def test_things_that_are_no_tables(self):
        for thing in THINGS:
            if thing in (([], 0), ((), 0)):
                continue
            for place in range(len(GOOD)):
                self.assert_refused(3, GOOD[:place] + (thing,) + GOOD[place + 1:], KEEPS, OUTS)
        for thing in ([(), 1], [[], 1], ((), 1, 0), ((),), (1, ()), ((("in", 0)), 1), ("", 0), ({}, 0)):
            self.assert_refused(3, [thing], [], [])

    def test_things_that_are_no_leaves(self):
        for thing in THINGS:
            for leaves in ([thing], [("in", 0), thing], (thing, ("in", 0), ("in", 1), ("in", 0))):
                self.assert_refused(3, [(leaves, 0)], KEEPS[1:2] * 3, [])

    def test_five_leaves(self):
        Tables(3, [([("in", 0)] * 4, 0)], [], [])
        for count in (5, 6, 16):
            self.assert_refused(3, [([("in", 0)] * count, 0)], [], [])
            self.assert_refused(3, [(tuple([("in", 0)] * count), 0)], [], [])

    def test_leaves_of_later_tables_and_of_itself(self):
        for number in range(4):
            for other in range(6):
                tables = [([], 0)] * 4
                tables[number] = ([("in", 0), ("table", other)], 8)
                if other < number:
                    self.assertEqual(len(Tables(1, tables, [], []).tables), 4)
                else:
                    self.assert_refused(1, tables, [], [])

    def test_bits_beyond(self):
        for count, most in enumerate((1, 3, 15, 255, 65535)):
            leaves = [("in", 1), ("keep", 0), ("in", 0), ("in", 1)][:count]
            for bits in (0, 1, most):
                self.assertEqual(Tables(2, [(leaves, bits)], [(0, ("in", 0))], []).tables, ((tuple(leaves), bits),))
            for bits in (-1, most + 1, 10 ** 30, -10 ** 30, True, False, None, "0", "", [0], (0,), {}, object()):
                self.assert_refused(2, [(leaves, bits)], [(0, ("in", 0))], [])

    def test_first_values(self):
        for first in (0, 1):
            self.assertEqual(Tables(1, [], [(first, ("in", 0))], []).keeps, ((first, ("in", 0)),))
        for first in (2, -1, 10 ** 30, True, False, None, "0", "", [0], (0,), {}, object()):
            self.assert_refused(1, [], [(first, ("in", 0))], [])
            self.assert_refused(1, [], [(0, ("in", 0)), (first, ("keep", 0))], [])

    def test_things_that_are_no_keeps(self):
        for thing in THINGS + ([0, ("in", 0)], (0, ("in", 0), 0), (("in", 0), 0), (0,), (0, ["in", 0])):
            self.assert_refused(3, GOOD, KEEPS[:1] + (thing,) + KEEPS[2:], OUTS)
            self.assert_refused(3, [], [thing], [])

    def test_places_of_keeps_and_outs(self):
        for thing in THINGS:
            self.assert_refused(3, GOOD, KEEPS[:2] + ((0, thing),), OUTS)
            self.assert_refused(3, GOOD, KEEPS, [thing])
            self.assert_refused(3, GOOD, KEEPS, OUTS + (thing,))
            self.assert_refused(3, GOOD, KEEPS, (thing,) + OUTS)
        for place, taken in ((("in", 2), True), (("in", 3), False), (("keep", 2), True), (("keep", 3), False),
                             (("table", 4), True), (("table", 5), False)):
            if taken:
                self.assertEqual(Tables(3, GOOD, KEEPS[:2] + ((0, place),), [place]).outs, (place,))
            else:
                self.assert_refused(3, GOOD, KEEPS, [place])
                self.assert_refused(3, GOOD, KEEPS[:2] + ((0, place),), [])

    def test_a_refusal_leaves_what_was_handed_in(self):
        leaves = [("in", 0)]
        tables = [(leaves, 2), ([("table", 1)], 2)]
        self.assert_refused(1, tables, [], [])
        self.assertEqual((tables, leaves), ([([("in", 0)], 2), ([("table", 1)], 2)], [("in", 0)]))


class DepthTest(unittest.TestCase):
    ROW = (((("in", 0),), 1), ((("table", 0),), 1), ((("in", 0), ("table", 1), ("table", 0)), 1), ((), 0),
           ((("table", 3), ("table", 2)), 1))

    def depth(self, keeps, outs, tables=ROW):
        return depth_of(Tables(1, tables, keeps, outs))

    def test_outs(self):
        for number, depth in enumerate((1, 2, 3, 1, 4)):
            self.assertEqual(self.depth([], [("table", number)]), depth)
        self.assertEqual(self.depth([], [("table", 0), ("table", 2), ("table", 3)]), 3)

    def test_keeps(self):
        for number, depth in enumerate((1, 2, 3, 1, 4)):
            self.assertEqual(self.depth([(0, ("table", number))], []), depth)
            self.assertEqual(self.depth([(0, ("table", number)), (1, ("in", 0))], [("table", 0)]), depth)

    def test_without_tables_that_tell_something(self):
        self.assertEqual(self.depth([], []), 0)
        self.assertEqual(self.depth([(0, ("in", 0)), (0, ("keep", 0))], [("in", 0), ("keep", 1)]), 0)
        self.assertEqual(self.depth([], [("in", 0)]), 0)
        self.assertEqual(depth_of(Tables(0, [], [], [])), 0)

    def test_a_row_does_not_go_on_through_a_keep(self):
        tables = (((("keep", 0),), 1), ((("table", 0),), 1))
        self.assertEqual(self.depth([(0, ("table", 1))], [("table", 0)], tables), 2)
        self.assertEqual(self.depth([(0, ("table", 0))], [("table", 0)], tables), 1)
        self.assertEqual(self.depth([(0, ("in", 0))], [("table", 0)], tables), 1)

    def test_tables_that_lead_nowhere(self):
        self.assertEqual(self.depth([(0, ("keep", 0))], [("table", 1), ("table", 3)]), 2)

    def test_a_leaf_that_stands_twice(self):
        tables = (((("in", 0), ("in", 0)), 6), ((("table", 0), ("table", 0), ("table", 0), ("table", 0)), 1))
        self.assertEqual(self.depth([], [("table", 1)], tables), 2)

    def test_a_long_row(self):
        tables = [([("in", 0)], 2)] + [([("table", number)], 2) for number in range(2999)]
        self.assertEqual(depth_of(Tables(1, tables, [], [("table", 2999)])), 3000)


if __name__ == "__main__":
    unittest.main()
