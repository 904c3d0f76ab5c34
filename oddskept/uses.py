"""Which calls may be made together for a wished grade."""

from oddskept.borders import border, subsets_of
from oddskept.errors import Unfit
from oddskept.levels import grade_of
from oddskept.mends import meets
from oddskept.stocks import Stock
from oddskept.variants import with_ports

MOST_ITEMS = 8


def find_uses(stock, *, wish):
    """Return the greatest safe and the least unsafe sets of items."""
    items = [(port, item) for port, menu in enumerate(stock.code.ports) for item in range(len(menu))]
    if len(items) > MOST_ITEMS:
        raise Unfit("the menus have more than eight items")
    least, greatest = border(subsets_of(items), lambda chosen: not meets(grade_of(_with_items(stock, chosen)), wish))
    return greatest, least


def _with_items(stock, chosen):
    """Return the stock with only the chosen items in its menus."""
    ports = [[item for number, item in enumerate(menu) if (port, number) in chosen]
             for port, menu in enumerate(stock.code.ports)]
    return Stock(with_ports(stock.code, ports), stock.plain)
