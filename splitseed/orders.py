"""Orders of things: ranked, laid on rows, and made of numbers by exchanges."""

from splitseed.errors import NoNumber, NoOrder
from splitseed.steps import check_within
from splitseed.words import is_within

MOST_THINGS = 60
MOST_RANKED = 20


def is_order(thing):
    """Whether any thing is an order."""
    if not isinstance(thing, (list, tuple)) or len(thing) > MOST_THINGS:
        return False
    last = len(thing) - 1
    return all(is_within(number, 0, last) for number in thing) and len(set(thing)) == len(thing)


def check_order(thing):
    """Refuses any thing that is no order."""
    if not is_order(thing):
        raise NoOrder(thing)


def orders_many(many):
    """How many orders of so many things there are."""
    check_within(many, 0, MOST_RANKED)
    orders = 1
    for factor in range(2, many + 1):
        orders *= factor
    return orders


def order_at(many, rank):
    """The order of so many things that has this rank."""
    check_within(rank, 0, orders_many(many) - 1)
    left = list(range(many))
    order = []
    rest = rank
    for behind in range(many - 1, -1, -1):
        each = orders_many(behind)
        order.append(left.pop(rest // each))
        rest = rest % each
    return tuple(order)


def order_rank(order):
    """How many orders of as many things are less than this one."""
    check_order(order)
    if len(order) > MOST_RANKED:
        raise NoOrder(order)
    left = sorted(order)
    rank = 0
    for number in order:
        at = left.index(number)
        left.pop(at)
        rank += at * orders_many(len(left))
    return rank


def next_order(order):
    """The order whose rank is one greater, or None of the last one."""
    check_order(order)
    at = len(order) - 2
    while at >= 0 and order[at] > order[at + 1]:
        at -= 1
    if at < 0:
        return None
    # Behind this place the numbers fall, so no greater order has the same number here: the least
    # one has the next greater of those from here on, and all others behind it rising.
    tail = sorted(order[at:])
    first = tail.pop(tail.index(order[at]) + 1)
    return tuple(order[:at]) + (first,) + tuple(tail)


def laid(row, order):
    """The list whose thing at each place is the thing of the row at the place that the order tells."""
    check_order(order)
    if len(order) != len(row):
        raise NoOrder(order)
    return [row[at] for at in order]


def turned_order(order):
    """The order that undoes this one."""
    check_order(order)
    turned = [0] * len(order)
    for at, number in enumerate(order):
        turned[number] = at
    return tuple(turned)


def exchange(things, one, other):
    """Exchanges the things at two places of a list."""
    things[one], things[other] = things[other], things[one]


def by_numbers(numbers):
    """The order that comes of the numbers by exchanges."""
    if not isinstance(numbers, (list, tuple)) or len(numbers) >= MOST_THINGS:
        raise NoNumber(numbers)
    for k, number in enumerate(numbers):
        check_within(number, 0, len(numbers) - k)
    order = list(range(len(numbers) + 1))
    for k, number in enumerate(numbers):
        exchange(order, len(numbers) - k, number)
    return tuple(order)


def numbers_by(order):
    """The numbers of which the order comes by exchanges."""
    check_order(order)
    if len(order) == 0:
        raise NoOrder(order)
    things = list(range(len(order)))
    numbers = []
    for place in range(len(order) - 1, 0, -1):
        # No later exchange reaches this place, so the thing that is due here comes here now.
        number = things.index(order[place])
        numbers.append(number)
        exchange(things, place, number)
    return numbers
