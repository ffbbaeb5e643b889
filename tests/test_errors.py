import unittest

from metricparts.errors import Fault, Malformed, NoText, Refused, ZeroDivisor

FOUR = (Malformed, ZeroDivisor, Refused, NoText)


class Errors(unittest.TestCase):
    def test_fault_is_a_value_error(self):
        self.assertTrue(issubclass(Fault, ValueError))
        with self.assertRaises(ValueError):
            raise Fault("x")

    def test_the_four_are_faults(self):
        for one in FOUR:
            self.assertTrue(issubclass(one, Fault), one)

    def test_none_is_a_subclass_of_another_one(self):
        for one in FOUR:
            for other in FOUR:
                self.assertEqual(issubclass(one, other), one == other)

    def test_refused_has_its_reason(self):
        for reason in ("large", "metric", "many", ""):
            self.assertEqual(Refused(reason).reason, reason)

    def test_no_text_has_its_place(self):
        for at in (0, 1, 17, 10 ** 40):
            self.assertEqual(NoText(at).at, at)

    def test_attributes_are_set_on_each_object(self):
        self.assertEqual(vars(Refused("large")), {"reason": "large"})
        self.assertEqual(vars(NoText(3)), {"at": 3})
        one, other = Refused("large"), Refused("metric")
        self.assertEqual((one.reason, other.reason), ("large", "metric"))

    def test_raised_and_caught(self):
        with self.assertRaises(Refused) as caught:
            raise Refused("large")
        self.assertEqual(caught.exception.reason, "large")
        with self.assertRaises(NoText) as caught:
            raise NoText(5)
        self.assertEqual(caught.exception.at, 5)

    def test_malformed_and_zero_divisor_with_and_without_a_text(self):
        for one in (Malformed, ZeroDivisor):
            with self.assertRaises(Fault):
                raise one()
            with self.assertRaises(Fault):
                raise one("some text")


if __name__ == "__main__":
    unittest.main()
