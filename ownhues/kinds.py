"""What kind a value is; for any value, so nothing is taken for granted."""


def is_count(value):
    """Whether the value is an integer from 0 on."""
    return isinstance(value, int) and not isinstance(value, bool) and value >= 0


def are_counts(value):
    """Whether the value is a list of integers from 0 on."""
    return isinstance(value, list) and all([is_count(entry) for entry in value])


def are_different_counts(value):
    """Whether the value is a list of different integers from 0 on."""
    return are_counts(value) and len(set(value)) == len(value)


def are_ascending_counts(value):
    """Whether the value is an ascending list of different integers from 0 on."""
    if not are_counts(value):
        return False
    return all([low < high for low, high in zip(value, value[1:])])
