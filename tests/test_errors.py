import unittest

from eitheror.errors import BadChoice, BadHouse, BadText, BadWord, Unpleased, WishError


class Errors(unittest.TestCase):
    def test_each_stands_straight_under_the_one_above(self):
        self.assertEqual(WishError.__bases__, (ValueError,))
        for error in (BadHouse, BadWord, BadChoice, Unpleased, BadText):
            self.assertEqual(error.__bases__, (WishError,), error)

    def test_unpleased_has_torn(self):
        torn = ["a torn that was handed in"]
        refusal = Unpleased(torn)
        self.assertEqual(refusal.torn, ["a torn that was handed in"])
        self.assertEqual(torn, ["a torn that was handed in"])

    def test_each_unpleased_has_its_own_torn(self):
        first = Unpleased(["first"])
        second = Unpleased(["second"])
        self.assertEqual((first.torn, second.torn), (["first"], ["second"]))
        first.torn.append("changed")
        self.assertEqual(second.torn, ["second"])

    def test_bad_text_has_place(self):
        for place in (0, 1, 26):
            self.assertEqual(BadText(place).place, place)

    def test_each_can_be_raised_and_taken(self):
        refusals = [BadHouse("words"), BadWord("words"), BadChoice("words"), Unpleased(None), BadText(0)]
        for refusal in refusals:
            with self.assertRaises(WishError) as taken:
                raise refusal
            self.assertIs(taken.exception, refusal)


if __name__ == "__main__":
    unittest.main()
