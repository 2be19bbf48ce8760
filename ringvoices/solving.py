"""Solving: lines of tops, each of which is to give 0, brought to steps. Nothing is checked here.

A line stands for all that it is times numbers other than 0; so it needs no bottom.
"""

from math import gcd, lcm

from ringvoices.turns import completed, lowered, multiplied


def stepped(floor, lines):
    """The steps of lines: pairs (at, line) with an integer other than 0 at the place at, where other lines have 0.

    They have the same sums as the lines, and are as few as can be.
    """
    steps = []
    for line in lines:
        for at, step in steps:
            line = _lessened(floor, line, step, at)
        found = [k for k, tops in enumerate(line) if any(tops)]
        if found != []:
            first = found[0]
            line = _evened(floor, line, first)
            steps = [(other_at, _lessened(floor, other, line, first)) for other_at, other in steps] + [(first, line)]
    return steps


def _lessened(floor, line, step, at):
    """The line times an integer, less the step times what makes it 0 at this place."""
    factor = line[at]
    if not any(factor):
        return line
    whole = step[at][0]
    found = []
    for tops, others in zip(line, step):
        taken = multiplied(factor, others, floor.polynomial) if any(others) else others
        found.append([whole * tops[k] - taken[k] for k in range(floor.degree)])
    return _cut(found)


def _evened(floor, line, at):
    """The line times what makes an integer of what stands at this place."""
    others, _ = completed(line[at], floor.order, floor.polynomial)
    return _cut([multiplied(tops, others, floor.polynomial) if any(tops) else tops for tops in line])


def _cut(line):
    """The line divided by what divides all of it: without this the integers would soon be endless."""
    common = 0
    for tops in line:
        for top in tops:
            common = gcd(common, top)
    if common < 2:
        return line
    return [[top // common for top in tops] for tops in line]


def nullifying(floor, lines, many):
    """Lines, each of so many tops, whose sums are all those whose products with each of the lines come to 0."""
    steps = stepped(floor, lines)
    taken = [at for at, _ in steps]
    return [_nullifying_line(floor, steps, free, many) for free in range(many) if free not in taken]


def _nullifying_line(floor, steps, free, many):
    common = 1
    for at, step in steps:
        common = lcm(common, step[at][0])
    found = [floor.tops_of(0) for _ in range(many)]
    found[free] = floor.tops_of(common)
    for at, step in steps:
        by = common // step[at][0]
        found[at] = [-top * by for top in step[free]]
    return _cut(found)


def solved(floor, lines, many):
    """So many numbers whose products with each line come to the last of its tops, None if there are none."""
    found = [(floor.tops_of(0), 1) for _ in range(many)]
    for at, step in stepped(floor, lines):
        if at == many:
            return None
        found[at] = lowered(step[many], step[at][0])
    return tuple(found)
