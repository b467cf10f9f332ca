"""Wishes: values that simple tests accept, or what shows that there are none."""

from roundcalls.certificates import reached
from roundcalls.errors import NotSimple
from roundcalls.falling import are_numbers, do_fall, falling_numbers
from roundcalls.functions import check_known, functions_of
from roundcalls.games import decided
from roundcalls.kinds import is_ascending, is_row_of, is_same_thing
from roundcalls.needs import own_needs
from roundcalls.sheets import least_sheet
from roundcalls.signatures import VOID, field_counts
from roundcalls.simpletests import alternatives_for, is_simple


def wish(program, name):
    """Return ("value", sheet) with a value that a simple test accepts, or ("none", rows) if there is none.

    Raise UnknownFunction, or NotSimple for any other function.
    """
    wishes = Wishes(program, name)
    winners, plans = decided(wishes.system, wishes.ranks)
    used = reached(plans, 0)
    if winners[0]:
        return "value", wishes.value_for(used)
    return "none", wishes.rows_for(used)


def no_wish_holds(program, name, thing):
    """Return whether a value is rows that show that a simple test accepts no value; raise the errors of wish."""
    return Wishes(program, name).rows_hold(thing)


class Wishes:
    """What a simple test, and the tests that it needs, ask for; the test itself has number 0.

    Somebody who believes that there is a value chooses a tag and an alternative for each test, a
    doubter one of its pairs: so the system is one of settled bodies of tests.
    """

    def __init__(self, program, name):
        functions = functions_of(program)
        check_known(functions, name)
        if not is_simple(functions, name):
            raise NotSimple(name)
        self._signature = program[0]
        self._names = own_needs(functions, name)
        self._numbers = {needed: number for number, needed in enumerate(self._names)}
        self._choices = [choices_of(self._signature, functions[needed]) for needed in self._names]
        self.ranks = [functions[needed].rank for needed in self._names]
        self.system = [self._body(choices) for choices in self._choices]

    def _body(self, choices):
        """Return the settled body that comes to yes if all tests in one of some choices do."""
        sides = []
        for _, alternative in choices:
            calls = [("call", self._numbers[other]) for _, other in alternative]
            sides.append(folded("and", calls, ("yes",)))
        return folded("or", sides, ("no",))

    def _needed_by(self, alternative):
        """Return the numbers of the tests in an alternative."""
        return [self._numbers[other] for _, other in alternative]

    def value_for(self, used):
        """Return the value in which each test gets what it asks for, given the tests that each one uses."""
        tests = list(used)
        rows = [self._row_for(test, used[test], tests) for test in tests]
        return least_sheet(tuple(rows + [(VOID, ())]))

    def _row_for(self, test, used, tests):
        """Return the row for a test that uses some tests; fields at which none looks lead to the row behind all."""
        for tag, alternative in self._choices[test]:
            if all([other in used for other in self._needed_by(alternative)]):
                looks = {at: tests.index(self._numbers[other]) for at, other in alternative}
                many = field_counts(self._signature)[tag]
                return tag, tuple([looks.get(at, len(tests)) for at in range(many)])
        return VOID, ()

    def rows_for(self, used):
        """Return the rows that show that there is no value, given the tests that each one uses."""
        numbers = falling_numbers(used, self.ranks, False)
        rows = [(self._names[test], self._picks_for(test, used[test]), numbers[test]) for test in used]
        return tuple(sorted(rows))

    def _picks_for(self, test, used):
        """Return a pick for each choice of a test: the first pair with a test that is used."""
        picks = []
        for tag, alternative in self._choices[test]:
            pairs = [pair for pair in alternative if self._numbers[pair[1]] in used]
            picks.append((tag, alternative, pairs[0]))
        return tuple(picks)

    def rows_hold(self, thing):
        """Return whether a value is rows that show that there is no value."""
        if not isinstance(thing, tuple) or not all([self._is_row(row) for row in thing]):
            return False
        if not is_ascending([name for name, _, _ in thing]):
            return False
        numbers = {name: found for name, _, found in thing}
        return self._names[0] in numbers and all([self._is_row_proved(row, numbers) for row in thing])

    def _is_row(self, thing):
        """Return whether a value is a triple of a needed test, a pick for each of its choices, and numbers."""
        if not is_row_of(thing, 3):
            return False
        name, picks, numbers = thing
        if not isinstance(name, str) or name not in self._numbers or not are_numbers(numbers):
            return False
        choices = self._choices[self._numbers[name]]
        if not is_row_of(picks, len(choices)):
            return False
        return all([is_pick(pick, choice) for pick, choice in zip(picks, choices)])

    def _is_row_proved(self, row, numbers):
        """Return whether there is a row, with numbers that fall, for the test of each pair picked in a row."""
        name, picks, mine = row
        others = [pair[1] for _, _, pair in picks]
        if not all([other in numbers for other in others]):
            return False
        rank = self.ranks[self._numbers[name]]
        return all([do_fall(mine, numbers[other], rank, False) for other in others])


def choices_of(signature, function):
    """Return (tag, alternative) for each tag of the signature and each alternative of a simple test for it."""
    return [(tag, alternative) for tag, _ in signature for alternative in alternatives_for(function, tag)]


def is_pick(thing, choice):
    """Return whether a value is a triple of the tag and the alternative of a choice, and a pair of it."""
    if not is_row_of(thing, 3) or not is_same_thing(thing[:2], choice):
        return False
    return any([is_same_thing(thing[2], pair) for pair in choice[1]])


def folded(word, bodies, empty):
    """Return settled bodies joined by a word, inside one another as little as can be; the empty one for none."""
    if len(bodies) < 2:
        return bodies[0] if bodies else empty
    middle = len(bodies) // 2
    return word, folded(word, bodies[:middle], empty), folded(word, bodies[middle:], empty)
