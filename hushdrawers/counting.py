"""Whole numbers, rows and ratios that are counted out."""

from math import gcd

from hushdrawers.houses import coin_count


def power(base, many):
    """A number taken so many times as a factor."""
    result = 1
    for _ in range(many):
        result = result * base
    return result


def rows_of(values, many):
    """The list of all tuples of so many of some values; ascending if the values are."""
    rows = [()]
    for _ in range(many):
        rows = [row + (value,) for row in rows for value in values]
    return rows


def coin_rows(house, many):
    """The list of all rows of the coins of so many moments, ascending."""
    return rows_of(list(range(coin_count(house))), many)


def lowest(numerator, denominator):
    """The ratio of two integers in lowest terms; the denominator is above 0."""
    shared = gcd(numerator, denominator)
    return (numerator // shared, denominator // shared)
