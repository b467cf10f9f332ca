"""The numbers in certificates of tests: from a call to those that are used they fall at places of one evenness."""

from roundcalls.forms import MOST_RANK
from roundcalls.kinds import is_natural, is_row_of

PLACES = MOST_RANK + 1


def are_numbers(thing):
    """Return whether a value is a tuple of integers from 0 on, one for each rank."""
    return is_row_of(thing, PLACES) and all([is_natural(item) for item in thing])


def taken(numbers, rank, answer):
    """Return the numbers that count for a rank: those at the odd places up to it, for False at the even ones."""
    return numbers[first_place(answer):rank + 1:2]


def first_place(answer):
    """Return the first of the places that count for an answer."""
    return 1 if answer else 0


def do_fall(numbers, used, rank, answer):
    """Return whether the numbers of a used call are as small as those of a call with a rank need them to be."""
    mine, theirs = taken(numbers, rank, answer), taken(used, rank, answer)
    # A rank that is against the answer must not come again and again.
    if (rank % 2 == 0) != answer:
        return theirs < mine
    return theirs <= mine


def falling_numbers(plans, ranks, answer):
    """Return a dict from calls to numbers that fall, given the calls that each one uses and the ranks.

    On no loop of uses the least rank is against the answer.
    """
    users = {call: [] for call in plans}
    for call in plans:
        for used in plans[call]:
            users[used].append(call)
    columns = [{} for _ in range(PLACES)]
    for place in range(first_place(answer), PLACES, 2):
        columns[place] = heights(plans, users, ranks, place)
    return {call: tuple([column.get(call, 0) for column in columns]) for call in plans}


def heights(plans, users, ranks, place):
    """Return the most calls of the rank of a place on the walks from each call, up to the first lesser rank."""
    found = {call: 0 for call in plans}
    waiting = list(plans)
    while waiting:
        call = waiting.pop()
        if ranks[call] >= place:
            height = max([found[used] for used in plans[call]], default=0)
            if ranks[call] == place:
                height = height + 1
            if height > found[call]:
                found[call] = height
                waiting.extend(users[call])
    return found
