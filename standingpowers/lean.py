"""Lean systems, none of whose equations is needless (section 17 of the document)."""

from standingpowers.systems import System, first_that_fails


def is_needless(system, index):
    """Whether an equation of a system follows from the other ones."""
    return follows_from_others(system, list(range(len(system.equations))), index)


def follows_from_others(system, indexes, index):
    """Whether an equation follows from the other ones of those with some indexes."""
    tables = system.tables()
    others = [tables[other] for other in indexes if other != index]
    # What follows is what is 0 wherever the others are all 0.
    failing = [at for at, number in enumerate(tables[index]) if number != 0]
    return all([first_that_fails(others, at) is not None for at in failing])


def lean(system):
    """The indexes of equations that have the same solutions while none of them is needless."""
    kept = list(range(len(system.equations)))
    for index in range(len(system.equations)):
        # An equation that stays is not needless later either: then it has
        # fewer other ones from which it could follow.
        if follows_from_others(system, kept, index):
            kept = [other for other in kept if other != index]
    return kept


def judge_lean(system, indexes):
    """Whether a list of integers is a lean choice of the equations of a system."""
    if not are_ascending_indexes(indexes, len(system.equations)):
        return False
    chosen = System(system.space, [system.equations[index] for index in indexes])
    if chosen.solutions() != system.solutions():
        return False
    return not any([is_needless(chosen, index) for index in range(len(indexes))])


def are_ascending_indexes(numbers, many):
    """Whether integers are indexes of a list with so many items, each one above the one before."""
    if not all([0 <= number < many for number in numbers]):
        return False
    return all([numbers[at - 1] < numbers[at] for at in range(1, len(numbers))])
