"""Floors drawn together step by step until no step fits."""

from currentfloor.steps import Above, Beside, step_of


def fitting(floor):
    """The steps above and beside that fit, sorted."""
    count = len(floor[2])
    steps = []
    for j in range(count):
        for k in range(j + 1, count):
            steps.append(Above(j, k))
            steps.append(Beside(j, k))
    return tuple(sorted([step.told() for step in steps if step.fits(floor)]))


def settled(floor):
    """Steps that can be done one behind the other, and the floor at which they end, in which none fits."""
    steps = []
    fits = fitting(floor)
    while fits:
        steps.append(fits[0])
        floor = step_of(fits[0]).done(floor)
        fits = fitting(floor)
    return (tuple(steps), floor)


def walked(floor, steps):
    """The floor behind a row of steps."""
    for told in steps:
        floor = step_of(told).done(floor)
    return floor
