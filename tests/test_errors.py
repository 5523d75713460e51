"""The classes of refusals, and their fields."""

import unittest

from hurryprice import errors

FIELDS = {
    "NoNet": ("part", "number"), "NoPaper": ("number",), "Unbalanced": ("work",), "NoTree": ("way",),
    "NoText": ("row",),
}
NAMES = (
    "NoNumber NoTime NoNet NoPaper Unbalanced NotStraight NoJoin NoTree TooMany NotSteps NoChange NoText NoDiary "
    "NoDeed NoRow NoName"
).split()


class TestErrors(unittest.TestCase):
    def test_each_stands_straight_under_hurry_error(self):
        self.assertEqual(errors.HurryError.__bases__, (ValueError,))
        self.assertEqual(len(NAMES), 16)
        for name in NAMES:
            self.assertEqual(getattr(errors, name).__bases__, (errors.HurryError,), name)

    def test_there_is_no_other_refusal(self):
        found = [name for name, one in vars(errors).items() if isinstance(one, type)]
        self.assertEqual(sorted(found), sorted(NAMES + ["HurryError"]))

    def test_none_is_caught_as_another_one(self):
        for name in NAMES:
            made = self.made(name)
            held = [other for other in NAMES if isinstance(made, getattr(errors, other))]
            self.assertEqual(held, [name])

    def made(self, name):
        values = [[2, 0] for field in FIELDS.get(name, ())]
        return getattr(errors, name)(*values) if values else getattr(errors, name)("words")

    def test_fields_are_handed_in_in_their_order(self):
        no_net = errors.NoNet("waits", 3)
        self.assertEqual((no_net.part, no_net.number), ("waits", 3))
        self.assertIsNone(errors.NoNet("net", None).number)
        self.assertEqual(errors.NoPaper(4).number, 4)
        self.assertIsNone(errors.NoPaper(None).number)
        self.assertEqual(errors.Unbalanced(5).work, 5)
        self.assertEqual(errors.NoTree([1, 0]).way, [1, 0])
        self.assertEqual(errors.NoText(6).row, 6)

    def test_each_value_is_set_when_it_is_made(self):
        for name, fields in FIELDS.items():
            self.assertEqual(set(vars(self.made(name))), set(fields))

    def test_a_way_is_not_kept_as_it_was_handed_in(self):
        way = [1, 0]
        refusal = errors.NoTree(way)
        way.append(2)
        self.assertEqual(refusal.way, [1, 0])

    def test_the_others_are_made_of_a_text(self):
        for name in NAMES:
            if name not in FIELDS:
                self.assertEqual(str(getattr(errors, name)("so and so")), "so and so")


if __name__ == "__main__":
    unittest.main()
