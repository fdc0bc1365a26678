"""What ascends: tuples, and the keys of dicts."""


def is_ascending(values):
    """Whether each value of a tuple or list is less than the next one."""
    return all([one < other for one, other in zip(values, values[1:])])


def ascending_dict(table):
    """A copy of a dict, with ascending keys."""
    return {key: table[key] for key in sorted(table)}
