"""Choices that are made one behind the other, each at a cost that depends on the one before it."""


def onward_table(choices, cost):
    """Return for each choice of each time the least that all further choices cost behind it."""
    rows = [tuple([0 for _ in choices[-1]])]
    for here, behind in reversed(list(zip(choices, choices[1:]))):
        rests = list(zip(behind, rows[-1]))
        rows.append(tuple([min([cost(choice, further) + rest for further, rest in rests]) for choice in here]))
    return tuple(rows[::-1])


def least_choices(choices, table, start, cost):
    """Return a choice for each time that cost the least together behind a start, as the table tells."""
    taken = [start]
    for here, row in zip(choices, table):
        found = [cost(taken[-1], choice) + rest for choice, rest in zip(here, row)]
        taken.append(here[found.index(min(found))])
    return taken[1:]
