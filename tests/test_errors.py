import unittest

from glitchnet import errors

NAMES = ["NoText", "TooMany", "NotFormula", "NoTurn", "NoForms", "NoRow"]


class ErrorsTest(unittest.TestCase):
    def test_net_error_is_a_value_error(self):
        self.assertEqual(errors.NetError.__bases__, (ValueError,))
        self.assertIsInstance(errors.NetError("why"), ValueError)

    def test_each_refusal_stands_under_net_error_alone(self):
        for name in NAMES:
            refusal = getattr(errors, name)("why")
            self.assertIsInstance(refusal, errors.NetError)
            self.assertIsInstance(refusal, ValueError)
            for other in NAMES:
                if other != name:
                    self.assertNotIsInstance(refusal, getattr(errors, other))

    def test_each_refusal_is_made_with_a_text(self):
        for name in NAMES + ["NetError"]:
            with self.assertRaises(errors.NetError) as held:
                raise getattr(errors, name)("a reason")
            self.assertEqual(str(held.exception), "a reason")


if __name__ == "__main__":
    unittest.main()
