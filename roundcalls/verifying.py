"""Whether values of any kind are correct certificates of the answers of tests, gatherers and measures."""

from roundcalls.falling import are_numbers, do_fall
from roundcalls.gathering import tags_with
from roundcalls.kinds import is_ascending, is_natural, is_pair, is_row_of
from roundcalls.measuring import price_of
from roundcalls.settledbodies import leaves


def tested_holds(answers, call, thing):
    """Return whether a value is a correct certificate of the answer of a test."""
    if not is_pair(thing) or not isinstance(thing[0], bool):
        return False
    answer, rows = thing
    bodies = answers.needed_bodies(call)
    if not isinstance(rows, tuple) or not all([is_tested_row(answers, bodies, row) for row in rows]):
        return False
    if not is_ascending([row[0] for row in rows]):
        return False
    numbers = {row[0]: row[2] for row in rows}
    return call in numbers and all([is_row_proved(answers, bodies, row, numbers, answer) for row in rows])


def is_tested_row(answers, bodies, thing):
    """Return whether a value is a triple of a needed call, ascending needed calls and numbers."""
    if not is_row_of(thing, 3):
        return False
    call, used, numbers = thing
    if not isinstance(used, tuple) or not are_numbers(numbers):
        return False
    return all([is_needed(answers, bodies, item) for item in (call,) + used]) and is_ascending(used)


def is_needed(answers, bodies, thing):
    """Return whether a value is one of the needed calls, whose settled bodies are given."""
    return answers.is_call(thing) and thing in bodies


def is_row_proved(answers, bodies, row, numbers, answer):
    """Return whether a row shows the answer of a test for its call, given that of the used calls."""
    call, used, _ = row
    if not all([other in numbers for other in used]):
        return False
    assumed = {other: True for other in used}
    if comes_to_yes(bodies[call], assumed, answer) != answer:
        return False
    rank = answers.rank_of(call)
    return all([do_fall(numbers[call], numbers[other], rank, answer) for other in used])


def comes_to_yes(body, assumed, answer):
    """Return whether a settled body comes to yes if the assumed calls come to an answer, all others do not."""
    word = body[0]
    if word == "call":
        return (body[1:] in assumed) == answer
    if word in ("yes", "no"):
        return word == "yes"
    first = comes_to_yes(body[1], assumed, answer)
    if first == (word == "or"):
        return first
    return comes_to_yes(body[2], assumed, answer)


def gathered_holds(answers, call, thing):
    """Return whether a value is a correct certificate of the answer of a gatherer."""
    calls, system = answers.needed_system(call)
    if not are_rows_of(answers, calls, thing, 2) or not all([are_numbered_tags(tags) for _, tags in thing]):
        return False
    found = [{tag: number for tag, number in tags} for _, tags in thing]
    return all([are_tags_proved(body, tags, found) for body, (_, tags) in zip(system, thing)])


def are_rows_of(answers, calls, thing, size):
    """Return whether a value is a tuple of tuples of so many items, whose first items are some calls."""
    if not isinstance(thing, tuple) or not all([is_row_of(row, size) and answers.is_call(row[0]) for row in thing]):
        return False
    return [row[0] for row in thing] == calls


def are_numbered_tags(thing):
    """Return whether a value is a tuple of pairs of a string and an integer from 0 on, ascending by the strings."""
    if not isinstance(thing, tuple) or not all([is_pair(item) for item in thing]):
        return False
    if not all([isinstance(tag, str) and is_natural(number) for tag, number in thing]):
        return False
    return is_ascending([tag for tag, _ in thing])


def are_tags_proved(body, tags, found):
    """Return whether tags are those to which a settled body comes, each by way of a lesser number, if of a call.

    The tags of the calls are given as dicts from them to their numbers.
    """
    if tags_with(body, found) != tuple([tag for tag, _ in tags]):
        return False
    return all([tag in tags_with(body, lesser_tags(body, found, number)) for tag, number in tags])


def lesser_tags(body, found, number):
    """Return a dict from the calls in a settled body to those of their tags that have lesser numbers."""
    numbers = [leaf[1] for leaf in leaves(body) if leaf[0] == "call"]
    return {call: [tag for tag, other in found[call].items() if other < number] for call in numbers}


def priced_holds(answers, call, thing):
    """Return whether a value is a correct certificate of the answer of a measure."""
    calls, system = answers.needed_system(call)
    if not are_rows_of(answers, calls, thing, 3):
        return False
    if not all([is_price(price) and is_natural(number) for _, price, number in thing]):
        return False
    prices = [price for _, price, _ in thing]
    return all([is_price_proved(body, row, prices, thing) for body, row in zip(system, thing)])


def is_price(thing):
    """Return whether a value is an integer from 0 on, or None for never."""
    return thing is None or is_natural(thing)


def is_price_proved(body, row, prices, rows):
    """Return whether a row has the price to which a settled body comes, by way of lesser numbers if it is not never."""
    _, price, number = row
    if price_of(body, prices) != price:
        return False
    return price is None or price_of(body, [before if other < number else None for _, before, other in rows]) == price
