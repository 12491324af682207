"""Judges of papers and breaches, which know nothing of how they are found."""

from coveredday.names import assets, is_integer, is_row, is_sequence
from coveredday.phases import ENDS, PHASES, ends_along, openings, phases_along, states, steps
from coveredday.sums import all_sums, allowance, weight_of
from coveredday.walks import tables_along, walk_fault


def _is_paper(paper, row):
    """Whether paper, any object, is a row of papers about this group, end and pair."""
    return is_row(paper, 5) and tuple(paper[:4]) == row and is_sequence(paper[4])


def _numbers(plan, told):
    """The dict of the numbers that a sequence of any objects gives to states, or None if one is wrong."""
    numbers = {}
    for entry in told:
        if not is_row(entry, 2) or not is_row(entry[0], 2):
            return None
        (node, phase), number = entry
        if (node is not None and node not in plan.node_names) or phase not in PHASES:
            return None
        if not is_integer(number) or number < 0 or (node, phase) in numbers:
            return None
        numbers[node, phase] = number
    return numbers


def _are_great_enough(arcs, row, numbers):
    """Whether each state has at least what each of its steps asks for."""
    _, end, up, down = row
    for state, step in arcs:
        if step.end == end or step.state in numbers:
            least = weight_of(step.table, up, down) + numbers.get(step.state, 0)
            if state not in numbers or numbers[state] < least:
                return False
    return True


def safe_fault(plan, papers):
    """What is wrong with papers, any object, as showing that the house never pays, or None."""
    rows = all_sums(plan)
    if not is_row(papers, len(rows)) or not all([_is_paper(paper, row) for paper, row in zip(papers, rows)]):
        return "papers"
    told = [_numbers(plan, paper[4]) for paper in papers]
    if any([numbers is None for numbers in told]):
        return "number"
    arcs = {group: [(state, step) for state in states(plan, group) for step in steps(plan, group, state)]
            for group in plan.group_names}
    if not all([_are_great_enough(arcs[row[0]], row, numbers) for row, numbers in zip(rows, told)]):
        return "step"
    for row, numbers in zip(rows, told):
        if any([numbers.get(opening, 0) > allowance(plan, *row) for opening in openings(plan, row[0])]):
            return "opening"
    return None


def _is_lead(plan, breach):
    """Whether the lead goes from the start up to the opening, which is one of the group's."""
    if breach.opening not in openings(plan, breach.group):
        return False
    place, phase = breach.opening
    if place is None:
        return breach.lead == ()
    if walk_fault(plan, breach.lead) is not None or breach.lead[-1:] != (place,):
        return False
    return phase == "empty" or any([plan.kind(node) in ("desk", "free") for node in breach.lead[:-1]])


def _turn(breach):
    """The place at which the ring begins."""
    return breach.first[-1] if breach.first else breach.opening[0]


def _is_straight(plan, breach):
    """Whether the breach shows a window without a ring."""
    place, phase = breach.opening
    if breach.ring != () or breach.phase is not None or not is_sequence(breach.tail):
        return False
    walk = breach.first + breach.tail
    if not walk or walk_fault(plan, walk, place) is not None:
        return False
    return breach.end in ends_along(plan, breach.group, phase, walk)


def _is_turning(plan, breach):
    """Whether the breach shows a window with a ring that leads from a state to this same state."""
    turn = _turn(breach)
    for walk in (breach.ring, breach.tail):
        if not walk or walk_fault(plan, walk, turn) is not None:
            return False
    if breach.ring[-1] != turn:
        return False
    if breach.phase not in phases_along(plan, breach.group, breach.opening[1], breach.first)[-1]:
        return False
    if breach.phase not in phases_along(plan, breach.group, breach.phase, breach.ring)[-1]:
        return False
    return breach.end in ends_along(plan, breach.group, breach.phase, breach.tail)


def _is_window(plan, breach):
    """Whether the breach, with a right opening, shows a window."""
    if not is_integer(breach.turns) or breach.turns < 0:
        return False
    if walk_fault(plan, breach.first, breach.opening[0]) is not None:
        return False
    return _is_straight(plan, breach) if breach.turns == 0 else _is_turning(plan, breach)


def _excess(plan, breach):
    """The sum of the window less the allowance."""
    turn = _turn(breach)
    weights = []
    for walk, behind, times in ((breach.first, breach.opening[0], 1), (breach.ring, turn, breach.turns),
                                (breach.tail, turn, 1)):
        tables = tables_along(plan, walk, behind)
        weights.append(times * sum([table[breach.up, breach.down] for table in tables]))
    return sum(weights) - allowance(plan, breach.group, breach.end, breach.up, breach.down)


def breach_fault(plan, breach):
    """What is wrong with a Breach of any objects, or None."""
    known = assets(plan.goods)
    if breach.group not in plan.group_names:
        return "group"
    if breach.end not in ENDS:
        return "end"
    if breach.up not in known or breach.down not in known or breach.up == breach.down:
        return "pair"
    if not _is_lead(plan, breach):
        return "lead"
    if not _is_window(plan, breach):
        return "window"
    if not is_integer(breach.excess) or breach.excess != _excess(plan, breach) or breach.excess < 1:
        return "excess"
    return None
