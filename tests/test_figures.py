import unittest

from runsums.figures import figure, figures, of_figures, ones

BASES = [2, 3, 7, 10, 16, 1000, 2 ** 20 + 1, 2 ** 40 - 1, 2 ** 40]
NUMBERS = [0, 1, 2, 9, 10, 255, 2 ** 40 - 1, 2 ** 40, 2 ** 40 + 1, 10 ** 100 + 7, 10 ** 800 - 1, 7 ** 900]


class TestFigure(unittest.TestCase):
    def test_by_ten(self):
        self.assertEqual([figure(9075, 10, k) for k in range(6)], [5, 7, 0, 9, 0, 0])

    def test_by_two_and_by_the_greatest_base(self):
        self.assertEqual([figure(6, 2, k) for k in range(5)], [0, 1, 1, 0, 0])
        self.assertEqual([figure(2 ** 40 * 5 + 3, 2 ** 40, k) for k in range(3)], [3, 5, 0])

    def test_behind_the_last_one(self):
        for base in BASES:
            self.assertEqual(figure(0, base, 0), 0)
            self.assertEqual(figure(1, base, 1), 0)
            self.assertEqual(figure(base - 1, base, 1), 0)
            self.assertEqual(figure(base, base, 2), 0)
            self.assertEqual(figure(base, base, 300), 0)

    def test_far_behind_the_last_one(self):
        for base in BASES:
            self.assertEqual(figure(0, base, 10 ** 30), 0)
            self.assertEqual(figure(10 ** 800 - 1, base, 10 ** 300), 0)

    def test_each_number_by_each_base(self):
        for number in NUMBERS:
            for base in BASES:
                for k in (0, 1, 2, 17, 299, 300):
                    self.assertEqual(figure(number, base, k), number // base ** k % base)

    def test_by_names(self):
        self.assertEqual(figure(k=1, base=10, number=75), 7)


class TestFigures(unittest.TestCase):
    def test_by_ten(self):
        self.assertEqual(figures(9075, 10, 4), [5, 7, 0, 9])
        self.assertEqual(figures(9075, 10, 2), [5, 7])
        self.assertEqual(figures(9075, 10, 6), [5, 7, 0, 9, 0, 0])

    def test_none(self):
        for number in NUMBERS:
            self.assertEqual(figures(number, 10, 0), [])

    def test_each_number_by_each_base(self):
        for number in NUMBERS:
            for base in BASES:
                for many in (1, 2, 30, 300):
                    told = figures(number, base, many)
                    self.assertIs(type(told), list)
                    self.assertEqual(len(told), many)
                    self.assertEqual(sum(one * base ** k for k, one in enumerate(told)), number % base ** many)
                    self.assertTrue(all(0 <= one < base for one in told))

    def test_the_list_told_is_the_askers_own(self):
        told = figures(123, 10, 3)
        told[0] = 9
        told.append(9)
        self.assertEqual(figures(123, 10, 3), [3, 2, 1])

    def test_by_names(self):
        self.assertEqual(figures(many=2, base=10, number=75), [5, 7])


class TestOfFigures(unittest.TestCase):
    def test_none_and_noughts(self):
        for base in BASES:
            self.assertEqual(of_figures([], base), 0)
            self.assertEqual(of_figures((), base), 0)
            self.assertEqual(of_figures([0], base), 0)
            self.assertEqual(of_figures([0] * 300, base), 0)

    def test_by_ten(self):
        self.assertEqual(of_figures([5, 7, 0, 9], 10), 9075)
        self.assertEqual(of_figures((5, 7, 0, 9, 0, 0), 10), 9075)

    def test_as_great_as_the_base_or_greater(self):
        self.assertEqual(of_figures([10], 10), 10)
        self.assertEqual(of_figures([10, 10], 10), 110)
        self.assertEqual(of_figures([0, 123, 10 ** 400 - 1], 10), 1230 + 100 * (10 ** 400 - 1))
        self.assertEqual(of_figures([2, 2, 2], 2), 14)
        self.assertEqual(of_figures([2 ** 40, 2 ** 41], 2 ** 40), 2 ** 40 + 2 ** 81)

    def test_back_from_figures(self):
        for number in NUMBERS:
            for base in BASES:
                self.assertEqual(of_figures(figures(number, base, 300), base), number % base ** 300)

    def test_what_is_handed_in_stays(self):
        some = [5, 70, 0, 9]
        of_figures(some, 10)
        self.assertEqual(some, [5, 70, 0, 9])

    def test_by_names(self):
        self.assertEqual(of_figures(base=10, some=[5, 7]), 75)


class TestOnes(unittest.TestCase):
    def test_none(self):
        for base in BASES:
            self.assertEqual(ones(base, 0), 0)

    def test_few(self):
        self.assertEqual([ones(10, many) for many in range(4)], [0, 1, 11, 111])
        self.assertEqual([ones(2, many) for many in range(5)], [0, 1, 3, 7, 15])
        self.assertEqual(ones(2 ** 40, 2), 2 ** 40 + 1)

    def test_300(self):
        for base in BASES:
            self.assertEqual(ones(base, 300), (base ** 300 - 1) // (base - 1))

    def test_by_names(self):
        self.assertEqual(ones(many=3, base=10), 111)


if __name__ == "__main__":
    unittest.main()
