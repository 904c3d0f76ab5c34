"""Stocks: code books with the plain books that are their meanings."""


class Stock:
    """A code book and the plain book that is its meaning."""

    def __init__(self, code, plain):
        self.code = code
        self.plain = plain


def first_plain(stock):
    """Return the plain state in which a stock starts."""
    return (stock.plain.first, ((),) * len(stock.code.ports))
