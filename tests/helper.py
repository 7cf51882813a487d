"""What several test files need."""


def only_tuples_and_numbers(value):
    if type(value) is tuple:
        return all(only_tuples_and_numbers(part) for part in value)
    return type(value) is int


def only_told_kinds(value):
    if type(value) is tuple:
        return all(only_told_kinds(part) for part in value)
    return value is None or type(value) in (int, str)


def some_sounds(source, size):
    return tuple(source.choice((-1000, 0, 1000, source.randint(-1000, 1000))) for k in range(size))


def some_rows(source, many, reach):
    return tuple((source.randint(-reach, reach), source.randint(-reach, reach)) for k in range(many))
