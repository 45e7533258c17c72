import random
import unittest

from runsums.bits import fits
from runsums.choosing import carries, choose, halvings, is_odd

GREAT = 10 ** 800 - 1


def rows_added_up(many):
    """For each n to below many its row of choosing numbers, each the sum of the two above it."""
    rows = [[1]]
    while len(rows) < many:
        above = [0, *rows[-1], 0]
        rows.append([above[k] + above[k + 1] for k in range(len(above) - 1)])
    return rows


def halved(number):
    """How often the number can be halved, by halving it."""
    times = 0
    while number % 2 == 0:
        number //= 2
        times += 1
    return times


def carried(one, other):
    """How many carries there are, by adding place by place."""
    many = carry = 0
    while one or other or carry:
        carry = (one % 2 + other % 2 + carry) // 2
        many += carry
        one //= 2
        other //= 2
    return many


class TestChoose(unittest.TestCase):
    def test_rows_added_up(self):
        for n, row in enumerate(rows_added_up(45)):
            for k in range(60):
                with self.subTest(n=n, k=k):
                    self.assertEqual(choose(n, k), row[k] if k <= n else 0)

    def test_by_hand(self):
        self.assertEqual([choose(5, k) for k in range(8)], [1, 5, 10, 10, 5, 1, 0, 0])
        self.assertEqual((choose(0, 0), choose(0, 1), choose(1, 0), choose(1, 1), choose(1, 2)), (1, 0, 1, 1, 0))

    def test_1000(self):
        row = rows_added_up(1001)[1000]
        for k in (0, 1, 2, 499, 500, 501, 998, 999, 1000):
            self.assertEqual(choose(1000, k), row[k])
        self.assertEqual((choose(1000, 0), choose(1000, 1), choose(1000, 999), choose(1000, 1000)), (1, 1000, 1000, 1))
        self.assertEqual(choose(1000, 1001), 0)
        self.assertEqual(choose(999, 1000), 0)
        self.assertEqual(sum(choose(1000, k) for k in range(1001)), 2 ** 1000)

    def test_n_less_k(self):
        for n in (0, 1, 2, 17, 40, 321, 1000):
            for k in range(n + 1):
                self.assertEqual(choose(n, k), choose(n, n - k))

    def test_beyond_1000(self):
        great = choose(1000, 500)
        self.assertEqual(choose(great, 0), 1)
        self.assertEqual(choose(great, 1), great)
        self.assertEqual(choose(great, 2), great * (great - 1) // 2)
        self.assertEqual(choose(great, great - 2), great * (great - 1) // 2)
        self.assertEqual((choose(great, great), choose(great, great + 1), choose(3, great)), (1, 0, 0))
        self.assertEqual(choose(5000, 3), 5000 * 4999 * 4998 // 6)

    def test_by_names(self):
        self.assertEqual(choose(k=2, n=6), 15)
        self.assertIs(type(choose(6, 2)), int)


class TestHalvings(unittest.TestCase):
    def test_small_ones(self):
        for number in range(1, 3000):
            self.assertEqual(halvings(number), halved(number))

    def test_1_and_odd_ones(self):
        self.assertEqual(halvings(1), 0)
        for number in (3, 5, 7, 255, 2 ** 100 + 1, 2 ** 2000 - 1, GREAT, 10 ** 799 + 1):
            self.assertEqual(halvings(number), 0)

    def test_powers_of_two(self):
        for times in (1, 2, 3, 30, 31, 32, 63, 64, 65, 500, 2657):
            self.assertEqual(halvings(2 ** times), times)

    def test_800_figures(self):
        self.assertEqual(halvings(10 ** 799), 799)
        self.assertEqual(halvings(GREAT - 1), 1)
        for times in (0, 1, 700, 2000, 2656):
            self.assertEqual(halvings((GREAT >> times | 1) << times), times)

    def test_thousands_of_times(self):
        for times in (2600, 5000, 300000):
            self.assertEqual(halvings(3 * 2 ** times), times)
            self.assertEqual(halvings(2 ** times), times)
            self.assertEqual(halvings(2 ** (2 * times) + 2 ** times), times)

    def test_by_names(self):
        self.assertEqual(halvings(number=12), 2)
        self.assertIs(type(halvings(12)), int)


class TestCarries(unittest.TestCase):
    def both_ways(self, one, other, many):
        with self.subTest(one=one, other=other):
            self.assertEqual(carries(one, other), many)
            self.assertEqual(carries(other, one), many)

    def test_small_ones(self):
        for one in range(70):
            for other in range(70):
                self.both_ways(one, other, carried(one, other))

    def test_none(self):
        self.both_ways(0b1010, 0b0101, 0)
        self.both_ways(2 ** 2000, 2 ** 2000 - 1, 0)
        self.both_ways(2 ** 2000, 1, 0)

    def test_0(self):
        for other in (0, 1, 2, 255, 256, GREAT):
            self.both_ways(0, other, 0)

    def test_behind_the_last_bit(self):
        self.both_ways(1, 1, 1)
        self.both_ways(0b10, 0b10, 1)
        self.both_ways(0b11, 0b11, 2)
        self.both_ways(2 ** 2656, 2 ** 2656, 1)

    def test_long_chains(self):
        for many in (2, 3, 64, 1000, 2656):
            self.both_ways(2 ** many - 1, 1, many)
            self.both_ways(2 ** many - 1, 2 ** many - 1, many)
            self.both_ways(2 ** many - 2, 2, many - 1)
            self.both_ways(2 ** many + 2 ** (many - 1) - 1, 1, many - 1)

    def test_two_chains(self):
        self.both_ways(0b0111_0011, 0b0001_0001, 5)

    def test_unlike_lengths(self):
        self.both_ways(GREAT, 1, carried(GREAT, 1))
        self.both_ways(GREAT, 7, carried(GREAT, 7))
        self.both_ways(2 ** 2000 + 3, 1, 2)
        self.both_ways(2 ** 2000 + 3, 2 ** 1000 + 3, 2)

    def test_800_figures(self):
        chance = random.Random(22)
        self.both_ways(GREAT, GREAT, carried(GREAT, GREAT))
        for _ in range(40):
            one, other = chance.randrange(GREAT), chance.randrange(GREAT)
            self.both_ways(one, other, carried(one, other))
            self.both_ways(one, GREAT - one, carried(one, GREAT - one))

    def test_by_names(self):
        self.assertEqual(carries(other=1, one=3), 2)
        self.assertIs(type(carries(3, 1)), int)


class TestIsOdd(unittest.TestCase):
    def test_all_small_ones(self):
        for n, row in enumerate(rows_added_up(45)):
            for k in range(60):
                with self.subTest(n=n, k=k):
                    self.assertIs(is_odd(n, k), k <= n and row[k] % 2 == 1)
                    self.assertIs(is_odd(n, k), choose(n, k) % 2 == 1)

    def test_k_greater_than_n(self):
        for n, k in [(0, 1), (1, 2), (2, 3), (6, 7), (7, 8), (1, 3), (999, 1000), (1000, 1001), (0, GREAT)]:
            self.assertIs(is_odd(n, k), False)

    def test_1000(self):
        for k in range(1002):
            self.assertIs(is_odd(1000, k), choose(1000, k) % 2 == 1)

    def test_powers_of_two_and_one_less(self):
        for n in (2, 4, 64, 512):
            for k in range(n + 1):
                self.assertIs(is_odd(n, k), k in (0, n))
                if k < n:
                    self.assertIs(is_odd(n - 1, k), True)
            self.assertIs(is_odd(n - 1, n), False)

    def test_by_names(self):
        self.assertIs(is_odd(k=2, n=6), True)
        self.assertIs(is_odd(k=3, n=6), False)


class TestBothTogether(unittest.TestCase):
    """Promise 23."""

    def test_halved_as_often_as_there_are_carries(self):
        for a in range(65):
            for b in range(65):
                self.assertEqual(halvings(choose(a + b, a)), carries(a, b))

    def test_odd_just_where_it_fits(self):
        for a in range(65):
            for b in range(65):
                self.assertIs(is_odd(b, a), fits(a, b))

    def test_great_ones(self):
        chance = random.Random(23)
        for _ in range(60):
            a, b = chance.randrange(501), chance.randrange(501)
            self.assertEqual(halvings(choose(a + b, a)), carries(a, b))
            self.assertIs(choose(b, a) % 2 == 1, fits(a, b))


if __name__ == "__main__":
    unittest.main()
