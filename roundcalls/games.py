"""The answers of tests: who wins the walks of believer and doubter along settled bodies, and by what plan."""

from roundcalls.settledbodies import callers


def believed(system, ranks):
    """Return, for each call of a system of tests with these ranks, whether the believer has a plan that wins."""
    winners, _ = decided(system, ranks)
    return winners


def decided(system, ranks):
    """Return (winners, plans) for a system of tests: lists with whether the believer wins each call, and a plan.

    The plan is that of the winner: the calls at most one of which comes next, whatever the other one does.
    """
    game = Game(system, ranks)
    winners = [None for _ in system]
    plans = {}
    for believer in (True, False):
        won = game.forced(believer, game.won_at_once(believer, winners), winners)
        winners = with_winner(winners, won, believer)
        plans.update(won)
    winners, more = game.decide(winners)
    plans.update(more)
    return winners, [plans[call] for call in range(len(system))]


def with_winner(winners, calls, believer):
    """Return the winners when some more calls are won by the believer, or else by the doubter."""
    changed = list(winners)
    for call in calls:
        changed[call] = believer
    return changed


class Game:
    """The walks along a system of settled bodies; a walk for ever is won as its least rank is even or odd."""

    def __init__(self, system, ranks):
        self._system = system
        self._ranks = ranks
        self._callers = callers(system)

    def won_at_once(self, believer, winners):
        """Return the plans, by calls, for the undecided calls from which a player can force a win at once.

        That is, without any other undecided call.
        """
        good = [winner == believer for winner in winners]
        left = [call for call, winner in enumerate(winners) if winner is None]
        plans = {call: plan_for(self._system[call], believer, good) for call in left}
        return {call: plans[call] for call in left if plans[call] is not None}

    def forced(self, believer, goals, winners):
        """Return the plans for the undecided calls from which a player can force some goals, and for these.

        The goals are given with their plans. Nobody can force a win at once from an undecided call
        that is no goal.
        """
        good = [winner == believer for winner in winners]
        for call in goals:
            good[call] = True
        plans = {call: goals[call] for call in goals}
        waiting = [caller for call in goals for caller in self._callers[call]]
        while waiting:
            call = waiting.pop()
            if winners[call] is None and not good[call]:
                plan = plan_for(self._system[call], believer, good)
                if plan is not None:
                    good[call] = True
                    plans[call] = plan
                    waiting.extend(self._callers[call])
        return plans

    def decide(self, winners):
        """Return the winner of each call, and plans for those calls of which it was not given yet.

        From none of these somebody can force a win at once. Among the calls left, a player can win
        those from which he can force infinitely many calls of the least rank, if that is his; the
        other one wins those where he can keep away from these and win, and those from which he can
        force that. What is left then is decided likewise.
        """
        plans = {}
        while None in winners:
            left = [call for call, winner in enumerate(winners) if winner is None]
            least = min([self._ranks[call] for call in left])
            player = least % 2 == 0
            lowest = {call: None for call in left if self._ranks[call] == least}
            near = self.forced(player, lowest, winners)
            tried, away = self.decide(with_winner(winners, near, player))
            lost = {call: away[call] for call in left if tried[call] != player}
            if lost:
                found = self.forced(not player, lost, winners)
                winners = with_winner(winners, found, not player)
            else:
                winners = with_winner(winners, left, player)
                found = {**near, **away, **self._staying(lowest, player, winners)}
            plans.update(found)
        return winners, plans

    def _staying(self, calls, player, winners):
        """Return plans for some calls by which a player goes on with calls that he wins."""
        good = [winner == player for winner in winners]
        return {call: plan_for(self._system[call], player, good) for call in calls}


def plan_for(body, believer, good):
    """Return the calls that a player may meet if he forces a win in a settled body, winning just the good calls.

    Return None if he cannot force one.
    """
    word = body[0]
    if word == "call":
        return [body[1]] if good[body[1]] else None
    if word in ("yes", "no"):
        return [] if (word == "yes") == believer else None
    first = plan_for(body[1], believer, good)
    if (word == "or") == believer:
        # The player who chooses the side needs one side, the other one needs both.
        return plan_for(body[2], believer, good) if first is None else first
    if first is None:
        return None
    second = plan_for(body[2], believer, good)
    return None if second is None else first + second
