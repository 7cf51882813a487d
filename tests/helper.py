"""What several test files need."""


def only_tuples_and_numbers(value):
    if type(value) is tuple:
        return all(only_tuples_and_numbers(part) for part in value)
    return type(value) is int
