"""Goods, which are things with worths, and purses of coins."""
