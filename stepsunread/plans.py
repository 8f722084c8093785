"""Looking at values that may be plans and foils."""

from stepsunread.acts import GREATEST_SUM, check_acts, place_of, planner_of
from stepsunread.forms import is_integer, is_pair, is_same, is_stand, string_of
from stepsunread.goals import next_stands
from stepsunread.machines import left_by, run_of
from stepsunread.outlooks import Prospect
from stepsunread.probing import events_of, is_outcome
from stepsunread.witnesses import answer_of_world, end_stand, is_fitting

# Of a book so many goals are kept, and of each so many books behind acts, as plans are shown again and again.
MOST_PROSPECTS = 4
MOST_OUTLINES = 500


def stands_from(work, crew, first):
    """All stands to which sets of sources and runs lead from the first one, as the keys of a dict."""
    found = {first: True}
    ahead = [first]
    while ahead:
        stand = ahead.pop()
        beyond = next_stands(work, stand)
        for step in work.steps:
            beyond.append(left_by(work, step, stand, run_of(work, crew, step, stand)[1]))
        for other in beyond:
            if other not in found:
                found[other] = True
                ahead.append(other)
    return found


def kept_prospect(study, log, goal):
    """What acts tell for a goal at the end of the log, as far as it was looked at before."""
    place = string_of((log, goal))
    if place in study.prospects:
        return study.prospects[place]
    found = Prospect(study, log, goal)
    if len(study.prospects) == MOST_PROSPECTS:
        study.prospects.clear()
    # An empty string may stand for any goal.
    if place:
        study.prospects[place] = found
    return found


class Looker:
    """Looks at plans and foils for a search: acts is a list of (act, price), in their sequence."""

    def __init__(self, search, acts):
        self.search = search
        self.acts = acts

    def price_of_plan(self, outlook, value, many):
        """The price of the plan, None if the value is none of at most so many acts."""
        if is_same(value, ("done",)):
            return 0 if outlook.is_reached() else None
        if not isinstance(value, tuple) or len(value) != 3 or not is_same(value[0], "act") or many == 0:
            return None
        _, told, rows = value
        found = [pair for pair in self.acts if is_same(told, pair[0])]
        if not found or not isinstance(rows, tuple):
            return None
        act, cost = found[0]
        beyond = outlook.behind(act)
        if len(rows) != len(beyond):
            return None
        greatest = 0
        for row, (outcome, other) in zip(rows, beyond):
            price = None
            if is_pair(row) and is_same(row[0], outcome):
                price = self.price_of_plan(other, row[1], many - 1)
            if price is None:
                return None
            greatest = max(greatest, price)
        return cost + greatest

    def is_foil(self, outline, value, many, price):
        """Whether the value is a foil for so many acts and this price, for the book of the outline."""
        if not is_pair(value) or not isinstance(value[1], tuple):
            return False
        hint, rows = value
        acts = [pair for pair in self.acts if many and pair[1] <= price]
        if len(rows) != len(acts) or not self.is_hint(outline, hint):
            return False
        for row, (act, cost) in zip(rows, acts):
            if not isinstance(row, tuple) or len(row) != 3 or not is_same(row[0], act):
                return False
            if not is_outcome(self.search.work, act, row[1]):
                return False
            if not self.is_foil(self.outline_behind(outline, act, row[1]), row[2], many - 1, price - cost):
                return False
        return True

    def outline_behind(self, outline, act, outcome):
        """The outline of the book behind the act and its outcome."""
        search = self.search
        events = events_of(search.work, act, outcome)
        if events in outline.twins:
            return outline.twins[events]
        twin = outline.going_on(search.number, events)
        if search.many_kept < MOST_OUTLINES:
            search.many_kept += 1
            outline.twins[events] = twin
        return twin

    def is_hint(self, outline, value):
        """Whether the value shows that the goal is not reached in the book."""
        goal = self.search.goal
        if goal[0] == "have":
            return is_fitting(outline, value) and not is_same(goal[2], answer_of_world(outline, value, goal[1]))
        if not isinstance(value, tuple) or len(value) != (2 if goal[0] == "know" else 4):
            return False
        if not all([is_fitting(outline, world) for world in value[:2]]):
            return False
        if goal[0] == "know":
            one, other = value
            return answer_of_world(outline, one, goal[1]) != answer_of_world(outline, other, goal[1])
        return self.is_doubt_of_all(outline, value)

    def is_doubt_of_all(self, outline, value):
        """Whether the first world leads to the stand, and both worlds have unlike runs of the step there."""
        work = self.search.work
        world, other, stand, step = value
        if not is_stand(work, stand) or step not in work.steps:
            return False
        if stand not in stands_from(work, world[0], end_stand(outline, world, self.search.number)):
            return False
        return run_of(work, world[0], step, stand) != run_of(work, other[0], step, stand)


def shows_cheapest(work, book, log, goal, prices, most, value, *, is_writing=True):
    """Whether the value is what cheapest could tell, with any plan of this price and any foil.

    BadBook, BadLog, BadGoal, BadPrices, BadCount, BadTruth, NoWorld.
    """
    study = check_acts(work, book, log, goal, prices, most, is_writing)
    if study.was_told(place_of(log, goal, prices, most, is_writing), value):
        return True
    search = kept_prospect(study, log, goal)
    looker = Looker(search, planner_of(search, prices, is_writing).acts)
    if is_pair(value) and is_same(value[0], "none"):
        return looker.is_foil(search.outline, value[1], most, GREATEST_SUM)
    if not isinstance(value, tuple) or len(value) != 4 or not is_same(value[0], "plan") or not is_integer(value[1]):
        return False
    _, price, plan, foil = value
    if price != looker.price_of_plan(search.first, plan, most):
        return False
    return foil is None if price == 0 else looker.is_foil(search.outline, foil, most, price - 1)
