"""The cheapest acts behind which a goal is reached."""

from stepsunread.errors import BadCount, BadGoal, BadLog, BadPrices, BadTruth, NoWorld
from stepsunread.forms import is_below, string_of
from stepsunread.goals import is_goal
from stepsunread.keys import are_prices
from stepsunread.outlooks import Prospect
from stepsunread.probing import all_acts, hands_of, is_log_to_act_on, price_of
from stepsunread.studies import study_of

MOST_ACTS = 3
# What as many acts cost at most.
GREATEST_SUM = 27


def check_acts(work, book, log, goal, prices, most, is_writing):
    """The study of the book: BadBook, BadLog, BadGoal, BadPrices, BadCount, BadTruth, NoWorld."""
    study = study_of(work, book)
    if not is_log_to_act_on(book, log):
        raise BadLog(log)
    if not is_goal(work, book, goal):
        raise BadGoal(goal)
    if not are_prices(prices, 1 + len(work.steps)):
        raise BadPrices(prices)
    if not is_below(most, MOST_ACTS + 1):
        raise BadCount(most)
    if not isinstance(is_writing, bool):
        raise BadTruth(is_writing)
    if not study.has_world():
        raise NoWorld(None)
    return study


class Planner:
    """Looks for plans: acts is a list of (act, price), in their sequence."""

    def __init__(self, search, acts):
        self.search = search
        self.acts = acts

    def least(self, outlook, many, price):
        """The least price of plans of at most so many acts, None if there are none for this price."""
        if outlook.is_reached():
            return 0
        if many in outlook.least_prices:
            found = outlook.least_prices[many]
            return found if found <= price else None
        if many == 0 or price <= outlook.barred_prices.get(many, 0):
            return None
        best = None
        for act, cost in self.acts:
            most = price if best is None else best - 1
            if cost <= most:
                found = self.least_behind(outlook, act, many, most - cost)
                best = best if found is None else cost + found
        if best is None:
            outlook.barred_prices[many] = price
        else:
            outlook.least_prices[many] = best
        return best

    def least_behind(self, outlook, act, many, price):
        """The greatest of the least prices of plans behind the act, None if some outcome has none for this price."""
        greatest = 0
        for _, beyond in outlook.behind(act):
            found = None if beyond.key == outlook.key else self.least(beyond, many - 1, price)
            if found is None:
                return None
            greatest = max(greatest, found)
        return greatest

    def plan(self, outlook, many, price):
        """A plan of at most so many acts for this price; there is one."""
        if outlook.is_reached():
            return ("done",)
        for act, cost in self.acts:
            if cost <= price and self.least_behind(outlook, act, many, price - cost) is not None:
                rows = [(outcome, self.plan(beyond, many - 1, price - cost)) for outcome, beyond in outlook.behind(act)]
                return "act", act, tuple(rows)
        return None

    def foil(self, outlook, many, price, wrote):
        """A foil for so many acts and this price, if acts ahead wrote these contents; there is no plan."""
        rows = []
        for act, cost in self.acts:
            if many and cost <= price:
                for outcome, beyond in outlook.behind(act):
                    if self.least(beyond, many - 1, price - cost) is None:
                        foil = self.foil(beyond, many - 1, price - cost, wrote + hands_of(act))
                        rows.append((act, outcome, foil))
                        break
        return self.hint(outlook, wrote), tuple(rows)

    def hint(self, outlook, wrote):
        """What shows that the goal is not reached, if acts wrote these contents."""
        cases, told = outlook.doubt
        worlds = tuple([self.search.world(case, wrote) for case in cases])
        return worlds[0] if self.search.goal[0] == "have" else worlds + told


def planner_of(search, prices, is_writing):
    """The planner of a search, by the prices of acts."""
    work = search.work
    return Planner(search, [(act, price_of(work, prices, act)) for act in all_acts(work, is_writing)])


def cheapest(work, book, log, goal, prices, most, *, is_writing=True):
    """("plan", price, plan, foil), or ("none", foil): the cheapest acts behind which the goal is reached.

    BadBook, BadLog, BadGoal, BadPrices, BadCount, BadTruth, NoWorld.
    """
    study = check_acts(work, book, log, goal, prices, most, is_writing)
    search = Prospect(study, log, goal)
    told = plan_or_foil(search, planner_of(search, prices, is_writing), most)
    return study.tell(place_of(log, goal, prices, most, is_writing), told)


def plan_or_foil(search, planner, most):
    """What cheapest tells."""
    least = planner.least(search.first, most, GREATEST_SUM)
    if least is None:
        return "none", planner.foil(search.first, most, GREATEST_SUM, ())
    plan = planner.plan(search.first, most, least)
    foil = None if least == 0 else planner.foil(search.first, most, least - 1, ())
    return "plan", least, plan, foil


def place_of(*asked):
    """What was asked, as a string: the answer of a goal may be any value."""
    return string_of(asked)
