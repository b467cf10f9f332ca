"""The answers of tests: who wins the walks of believer and doubter along settled bodies."""

from roundcalls.settledbodies import callers


def believed(system, ranks):
    """Return, for each call of a system of tests with these ranks, whether the believer has a plan that wins."""
    game = Game(system, ranks)
    winners = [None for _ in system]
    for believer in (True, False):
        goals = game.won_at_once(believer, winners)
        winners = with_winner(winners, game.forced(believer, goals, winners), believer)
    return game.decide(winners)


def with_winner(winners, calls, believer):
    """Return the winners when some more calls are won by the believer, or else by the doubter."""
    changed = list(winners)
    for call in calls:
        changed[call] = believer
    return changed


class Game:
    """The walks along a system of settled bodies; a walk for ever is won as its least rank is even or odd."""

    def __init__(self, system, ranks):
        self._system = system
        self._ranks = ranks
        self._callers = callers(system)

    def won_at_once(self, believer, winners):
        """Return the undecided calls from which a player can force a win without any other undecided one."""
        good = [winner == believer for winner in winners]
        left = [call for call, winner in enumerate(winners) if winner is None]
        return [call for call in left if wins(self._system[call], believer, good)]

    def forced(self, believer, goals, winners):
        """Return the undecided calls from which a player can force one of some goals, and these.

        Nobody can force a win at once from an undecided call that is no goal.
        """
        good = [winner == believer for winner in winners]
        for call in goals:
            good[call] = True
        found = list(goals)
        waiting = [caller for call in goals for caller in self._callers[call]]
        while waiting:
            call = waiting.pop()
            if winners[call] is None and not good[call] and wins(self._system[call], believer, good):
                good[call] = True
                found.append(call)
                waiting.extend(self._callers[call])
        return found

    def decide(self, winners):
        """Return the winner of each call, given those of all from which somebody can force a win at once.

        Among the calls left, a player can win those from which he can force infinitely many calls of
        the least rank, if that is his; the other one wins those where he can keep away from these and
        win, and those from which he can force that. What is left then is decided likewise.
        """
        while None in winners:
            left = [call for call, winner in enumerate(winners) if winner is None]
            least = min([self._ranks[call] for call in left])
            player = least % 2 == 0
            near = self.forced(player, [call for call in left if self._ranks[call] == least], winners)
            tried = self.decide(with_winner(winners, near, player))
            lost = [call for call in left if tried[call] != player]
            if lost:
                winners = with_winner(winners, self.forced(not player, lost, winners), not player)
            else:
                winners = with_winner(winners, left, player)
        return winners


def wins(body, believer, good):
    """Return whether a player can force a win in a settled body if he wins just those calls that are good."""
    word = body[0]
    if word == "call":
        return good[body[1]]
    if word in ("yes", "no"):
        return (word == "yes") == believer
    first = wins(body[1], believer, good)
    # The player who chooses the side needs one side, the other one needs both.
    if first == ((word == "or") == believer):
        return first
    return wins(body[2], believer, good)
