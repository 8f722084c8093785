"""Which files alone keep a result."""

from itertools import combinations

from stepsunread.errors import BadPrices, BadStand, NoStep, NoWorld
from stepsunread.finding import Finding
from stepsunread.forms import all_rows, content_at, is_integer, is_pair, is_same, is_stand
from stepsunread.looking import leaf_answers
from stepsunread.machines import run_of, written
from stepsunread.making import some_world
from stepsunread.studies import study_of
from stepsunread.witnesses import is_fitting

GREATEST_PRICE = 9


def are_prices(value, many):
    """Whether the value is a tuple of so many prices."""
    if not isinstance(value, tuple) or len(value) != many:
        return False
    return all([is_integer(price) and 1 <= price <= GREATEST_PRICE for price in value])


def check_key(work, book, step, stand, prices):
    """The study of the book: BadBook, NoStep, BadStand, BadPrices, NoWorld."""
    study = study_of(work, book)
    if step not in work.steps:
        raise NoStep(step)
    if not is_stand(work, stand):
        raise BadStand(stand)
    if not are_prices(prices, len(work.reads(step))):
        raise BadPrices(prices)
    if not study.has_world():
        raise NoWorld(None)
    return study


def price_of(work, step, prices, files):
    """What these files, read by the step, cost."""
    return sum([price for file, price in zip(work.reads(step), prices) if file in files])


def tuples_of_files(work, step, prices):
    """(price, files) for each tuple of files that the step reads, cheapest first, of one price the least first."""
    names = sorted(work.reads(step))
    rows = []
    for many in range(len(names) + 1):
        rows += [(price_of(work, step, prices, files), files) for files in combinations(names, many)]
    return sorted(rows)


def end_at(work, step, world, stand):
    """The end of a run of the step at the stand, in the world."""
    return run_of(work, world[0], step, stand)[1]


def bars(work, row, stand, files):
    """Whether both stands of the row, (world, other stand), have the same in these files."""
    return all([content_at(work, stand, file) == content_at(work, row[1], file) for file in files])


def closest_stand(work, step, world, stand, files):
    """A stand with the same in these files, and with another end; it differs in as few files as can be."""
    rest = [file for file in work.reads(step) if file not in files]
    best, fewest = None, 0
    for contents in all_rows([work.widths[file] for file in rest]):
        other = written(work, stand, rest, contents)
        many = len([1 for one, two in zip(stand, other) if one != two])
        if (best is None or many < fewest) and end_at(work, step, world, other) != end_at(work, step, world, stand):
            best, fewest = other, many
    return best


def key(work, book, step, stand, prices):
    """(price, files, tree, rows): the cheapest files that keep the end of the step.

    BadBook, NoStep, BadStand, BadPrices, NoWorld.
    """
    study = check_key(work, book, step, stand, prices)
    rows = []
    for price, files in tuples_of_files(work, step, prices):
        if any([bars(work, row, stand, files) for row in rows]):
            continue
        finding = Finding(study.grown(), ("keeps", step, stand, files), (True,), 1)
        grown = finding.grow()
        if not finding.found:
            return study.tell(("key", step, stand, prices), (price, files, grown, tuple(rows)))
        world = some_world(finding.found[False])
        rows.append((world, closest_stand(work, step, world, stand, files)))
    return None


def shows_key(work, book, step, stand, prices, value):
    """Whether the value is what key could tell, with any rows: BadBook, NoStep, BadStand, BadPrices, NoWorld."""
    study = check_key(work, book, step, stand, prices)
    if study.was_told(("key", step, stand, prices), value):
        return True
    if not isinstance(value, tuple) or len(value) != 4 or not isinstance(value[3], tuple):
        return False
    price, files, grown, rows = value
    told = tuples_of_files(work, step, prices)
    places = [at for at, pair in enumerate(told) if is_same((price, files), pair)]
    if not places or leaf_answers(study.grown(), ("keeps", step, stand, files), grown) != [True]:
        return False
    if not all([is_barring_row(study.outline, step, stand, row) for row in rows]):
        return False
    return all([any([bars(work, row, stand, pair[1]) for row in rows]) for pair in told[:places[0]]])


def is_barring_row(outline, step, stand, value):
    """Whether the value is (world, other stand), the world fits, and its ends at both stands differ."""
    work = outline.work
    if not is_pair(value) or not is_fitting(outline, value[0]) or not is_stand(work, value[1]):
        return False
    return end_at(work, step, value[0], stand) != end_at(work, step, value[0], value[1])
