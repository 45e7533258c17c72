import unittest

from runsums.choosing import choose
from runsums.figures import figure, figures
from runsums.powers import figure_of_power


def figures_of_the_power(n, many):
    """So many figures of the power that promise 24 tells of, by the power itself."""
    u = 2 ** (n + 1)
    power = (u + 1) ** n
    return [power // u ** k % u for k in range(many)]


class TestFigureOfPower(unittest.TestCase):
    def test_by_hand(self):
        self.assertEqual([figure_of_power(4, k) for k in range(7)], [1, 4, 6, 4, 1, 0, 0])
        self.assertEqual([figure_of_power(0, k) for k in range(3)], [1, 0, 0])
        self.assertEqual([figure_of_power(1, k) for k in range(3)], [1, 1, 0])

    def test_the_power_itself(self):
        for n in range(25):
            self.assertEqual([figure_of_power(n, k) for k in range(40)], figures_of_the_power(n, 40))

    def test_the_figures_of_stage_3(self):
        for n in (3, 10, 20):
            u = 2 ** (n + 1)
            self.assertEqual([figure_of_power(n, k) for k in range(n + 3)], figures((u + 1) ** n, u, n + 3))
            self.assertEqual(figure_of_power(n, n // 2), figure((u + 1) ** n, u, n // 2))

    def test_k_greater_than_n(self):
        for n, k in [(0, 1), (5, 6), (5, 1000), (999, 1000), (1000, 1001), (20, 10 ** 30)]:
            self.assertEqual(figure_of_power(n, k), 0)

    def test_the_ends(self):
        for n in (1, 2, 3, 64, 999, 1000):
            self.assertEqual((figure_of_power(n, 0), figure_of_power(n, n)), (1, 1))
            self.assertEqual((figure_of_power(n, 1), figure_of_power(n, n - 1)), (n, n))

    def test_1000(self):
        u = 2 ** 1001
        power = (u + 1) ** 1000
        for k in (0, 1, 499, 500, 501, 1000):
            self.assertEqual(figure_of_power(1000, k), (power >> 1001 * k) % u)
        self.assertEqual(figure_of_power(1000, 500), choose(1000, 500))

    def test_the_choosing_number(self):
        for n in (0, 1, 7, 40, 333):
            for k in range(n + 2):
                self.assertEqual(figure_of_power(n, k), choose(n, k))

    def test_by_names(self):
        self.assertEqual(figure_of_power(k=2, n=6), 15)
        self.assertIs(type(figure_of_power(6, 2)), int)


if __name__ == "__main__":
    unittest.main()
