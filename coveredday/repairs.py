"""Repairs: which changes of a pool, done together, make a plan that never makes the house pay."""

from coveredday.changes import changed, check_changes
from coveredday.errors import BadNames, CannotBe, NoChoice, TooManyChanges
from coveredday.indexsets import index_sets, is_within, least_sets
from coveredday.names import as_tuples, is_integer
from coveredday.verdict import verdict

_MOST_CHANGES = 6


def _is_index_tuple(thing):
    """Whether thing, any object, is a tuple of whole numbers."""
    return isinstance(thing, tuple) and all([is_integer(index) for index in thing])


def _check_count(things):
    """Raises TooManyChanges if there are more of them than a pool may have."""
    if len(things) > _MOST_CHANGES:
        raise TooManyChanges(len(things))


class Repairs:
    """The choices of a pool and what becomes of the plan by each of them; made by least_repairs alone."""

    def __init__(self, plan, pool, plans, papers):
        self.plan = plan
        self.pool = pool
        self._plans = plans
        self._papers = papers
        self.choices = tuple(plans)
        self.good = tuple([choice for choice in self.choices if self._has_fate(choice, "safe")])
        paying = [choice for choice in self.choices if self._has_fate(choice, "pays")]
        self.least = tuple([choice for choice in self.good
                            if not any([is_within(other, choice) and other != choice for other in self.good])])
        self.steady = tuple([choice for choice in self.good
                             if not any([is_within(choice, other) for other in paying])])
        self.harms = tuple([(choice, index) for choice in self.good for index in range(len(pool))
                            if index not in choice and tuple(sorted(choice + (index,))) in paying])

    def fate(self, choice):
        """What becomes of the plan by the choice, any object: "cannot", "safe" or "pays"."""
        paper = self.paper(choice)
        if paper is None:
            return "cannot"
        return "safe" if paper.is_safe else "pays"

    def paper(self, choice):
        """The verdict on the plan changed by the choice, any object; None if it cannot be."""
        self._check_choice(choice)
        return self._papers[choice]

    def plan_of(self, choice):
        """The plan changed by the choice, any object."""
        self._check_choice(choice)
        if self._plans[choice] is None:
            lengths = [length for length in range(len(choice)) if self._plans[choice[:length + 1]] is None]
            raise CannotBe(choice[lengths[0]])
        return self._plans[choice]

    def _has_fate(self, choice, word):
        return self.fate(choice) == word

    def _check_choice(self, thing):
        """Raises NoChoice unless thing, any object, is a choice of the pool."""
        if not _is_index_tuple(thing) or thing not in self.choices:
            raise NoChoice(thing)

    def __iter__(self):
        return iter(self.least)

    def __len__(self):
        return len(self.least)

    def __contains__(self, x):
        return _is_index_tuple(x) and x in self.least


def _plan_further(before, change):
    """The plan with one change more; None if that cannot be."""
    if before is None:
        return None
    try:
        return changed(before, (change,))
    except CannotBe:
        return None


def least_repairs(plan, pool):
    """The Repairs of a pool of any objects."""
    _check_count(pool)
    check_changes(pool)
    kept = as_tuples(pool)
    plans = {(): changed(plan, ())}
    for choice in index_sets(len(kept))[1:]:
        plans[choice] = _plan_further(plans[choice[:-1]], kept[choice[-1]])
    papers = {choice: None if plans[choice] is None else verdict(plans[choice]) for choice in plans}
    return Repairs(plan, kept, plans, papers)


def _check_names(plan, names):
    """Raises what is wrong with these objects as names of nodes that tell or look."""
    _check_count(names)
    earlier = []
    for index, name in enumerate(names):
        if name not in plan.node_names or plan.kind(name) not in ("tell", "look") or name in earlier:
            raise BadNames(index)
        earlier.append(name)


def _is_safe_with(plan, names, kept):
    """Whether the plan is safe in which of these nodes only those at the kept indices still tell or look."""
    rests = [("step", name, ("rest",)) for index, name in enumerate(names) if index not in kept]
    return verdict(changed(plan, rests)).is_safe


def least_kept(plan, names):
    """The least sets of these nodes, any objects, that have to tell or look so that the house never pays."""
    _check_names(plan, names)
    found = least_sets(len(names), lambda kept: _is_safe_with(plan, names, kept))
    return tuple([tuple([names[index] for index in kept]) for kept in found])
