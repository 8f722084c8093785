"""Programs of the kind sums: they read all files, and write sums of them."""

from stepsunread.forms import all_rows
from stepsunread.rules import is_met


def weighed(weights, contents, size):
    """The sum of the contents by their weights, the first weight standing alone."""
    total = weights[0]
    for weight, content in zip(weights[1:], contents):
        total += weight * content
    return total % size


def is_possible(part, fact):
    """Whether the fact lets the step read its files in their sequence, and write."""
    way, thing = fact
    if tuple([read[0] for read in way]) != part.inputs[:len(way)]:
        return False
    if thing[0] == "read":
        return part.inputs[len(way):len(way) + 1] == (thing[1],)
    return thing[0] == "end" and len(way) == len(part.inputs)


def asked_by_facts(facts, place):
    """(contents, is_equal, content) for what facts tell of one file that is written."""
    rows = []
    for way, thing in facts:
        if thing[0] == "end":
            rows.append((tuple([read[1] for read in way]), True, thing[1][place]))
    return rows


def asked_by_rules(part, place):
    """(contents, is_equal, content) for what claims tell of one file that is written."""
    rows = []
    for conditions, demand in part.rules:
        if demand[0] in ("is", "not") and demand[1] == place:
            for contents in all_rows(part.input_sizes()):
                if is_met(conditions, list(zip(part.inputs, contents))):
                    rows.append((contents, demand[0] == "is", demand[2]))
    return rows


def count_weights(part, asked, size):
    """How many weights give what is asked of one file that is written."""
    many = 0
    for weights in all_rows([size] * (len(part.inputs) + 1)):
        if all([(weighed(weights, row, size) == content) == is_equal for row, is_equal, content in asked]):
            many += 1
    return many


def count_sums(part, facts):
    """How many programs of the kind sums have all facts."""
    if not all([is_possible(part, fact) for fact in facts]):
        return 0
    if any([rule[1][0] == "fails" for rule in part.rules]):
        return 0
    total = 1
    # What one file gets tells nothing of the other one: their numbers multiply.
    for place, size in enumerate(part.output_sizes()):
        asked = asked_by_facts(facts, place) + asked_by_rules(part, place)
        total = total * count_weights(part, asked, size)
    return total
