"""Days before today are refused. No call moves the day yet, so the tests set it on the stock itself."""

import unittest

from reagentstock.stock import Stock, answer_bears, answer_clear, answer_demand, answer_lot, answer_spare


def stock_of_day_10():
    stock = Stock()
    stock.today = 10
    return stock


class BeforeToday(unittest.TestCase):
    def test_a_lot_whose_last_day_is_before_today(self):
        stock = stock_of_day_10()
        self.assertEqual(answer_lot(stock, [1, 0, 9, 1]), [-3])
        self.assertEqual(stock.lots, [])
        self.assertEqual(answer_lot(stock, [1, 0, 10, 1]), [0])
        self.assertEqual(answer_lot(stock, [1, 11, 12, 1]), [1])

    def test_a_demand_before_today(self):
        stock = stock_of_day_10()
        self.assertEqual(answer_demand(stock, [1, 9, 1]), [-3])
        self.assertEqual(stock.demands, {})
        self.assertEqual(answer_demand(stock, [1, 10, 1]), [1, 1])
        self.assertEqual(answer_demand(stock, [1, 11, 1]), [2, 2])

    def test_bears_and_spare_before_today(self):
        stock = stock_of_day_10()
        answer_lot(stock, [1, 0, 20, 6])
        self.assertEqual(answer_bears(stock, [1, 9, 1]), [-3])
        self.assertEqual(answer_bears(stock, [1, 10, 1]), [1])
        self.assertEqual(answer_spare(stock, [1, 9]), [-3])
        self.assertEqual(answer_spare(stock, [1, 10]), [6])

    def test_clear_brings_day_0_back(self):
        stock = stock_of_day_10()
        self.assertEqual(answer_clear(stock, []), [0])
        self.assertEqual(stock.today, 0)
        self.assertEqual(answer_demand(stock, [1, 0, 1]), [1, 1])

    def test_the_order_of_refusals(self):
        stock = stock_of_day_10()
        self.assertEqual(answer_lot(stock, [0, 0, 9, 1]), [-1])
        self.assertEqual(answer_demand(stock, [1, 9, 0]), [-1])
        self.assertEqual(answer_bears(stock, [1, 9, 1001]), [-1])
        self.assertEqual(answer_spare(stock, [9, 9]), [-1])
        for _ in range(40):
            answer_lot(stock, [1, 0, 10, 1])
            answer_demand(stock, [1, 10, 1])
        self.assertEqual(answer_lot(stock, [1, 0, 9, 1]), [-2])
        self.assertEqual(answer_demand(stock, [1, 9, 1]), [-2])
        self.assertEqual(answer_lot(stock, [1, 0, 9, 0]), [-1])
        self.assertEqual(answer_demand(stock, [1, 9, 0]), [-1])


if __name__ == "__main__":
    unittest.main()
