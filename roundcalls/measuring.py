"""The answers of measures: the least prices of calls."""

from heapq import heappop, heappush

from roundcalls.settledbodies import callers


def priced(system):
    """Return the price of each call of a system of measures, None for never."""
    prices, _ = priced_in_order(system)
    return prices


def priced_in_order(system):
    """Return (prices, numbers) for a system of measures: each price is made of those with lesser numbers.

    A price is never less than the prices that it is made of. So the least one of those that
    can be made of the prices found is the next one found.
    """
    prices = [None for _ in system]
    numbers = [0 for _ in system]
    many = 0
    users = callers(system)
    queue = []
    for call, body in enumerate(system):
        offer(queue, call, price_of(body, prices))
    while queue:
        price, call = heappop(queue)
        if prices[call] is None:
            prices[call] = price
            numbers[call] = many
            many = many + 1
            for user in users[call]:
                offer(queue, user, price_of(system[user], prices))
    return prices, numbers


def offer(queue, call, price):
    """Put a price of a call, if it is not never, into the queue of those that may be the least ones."""
    if price is not None:
        heappush(queue, (price, call))


def price_of(body, prices):
    """Return what a settled body of a measure comes to, given the prices of calls."""
    word = body[0]
    if word == "call":
        return prices[body[1]]
    if word == "never":
        return None
    if word == "number":
        return body[1]
    if word == "plus":
        price = price_of(body[2], prices)
        return None if price is None else price + body[1]
    sides = [price_of(body[1], prices), price_of(body[2], prices)]
    if word == "most":
        return None if None in sides else max(sides)
    return min([price for price in sides if price is not None], default=None)
