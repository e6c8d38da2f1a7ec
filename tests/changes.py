"""Values that are as others but for one or two parts, at any depth."""


def paths_in(value, path=()):
    """The paths to all parts of a value of nested tuples, the value itself among them."""
    found = [path]
    if isinstance(value, tuple):
        for at, part in enumerate(value):
            found += paths_in(part, path + (at,))
    return found


def part_at(value, path):
    for at in path:
        value = value[at]
    return value


def with_part(value, path, part):
    if not path:
        return part
    return value[:path[0]] + (with_part(value[path[0]], path[1:], part),) + value[path[0] + 1:]


ODD = (None, True, False, 0, 1, -1, 2, 10 ** 17, '', 'a', 'p', 'zz', (), [], {}, (None,), ('p',), ('q',), ('most',))


def other_number(chance, part):
    return chance.choice([part + 1, part - 1, part + chance.choice([2, 3, 7]), -part, bool(part), str(part)])


def other_tuple(chance, part):
    rows = list(part)
    way = chance.randrange(6)
    if way == 0 or not rows:
        return list(rows)
    at = chance.randrange(len(rows))
    if way == 1:
        del rows[at]
    elif way == 2:
        rows.insert(at, rows[at])
    elif way == 3:
        rows.append(chance.choice(rows))
    elif way == 4:
        rows[at] = chance.choice(rows)
    else:
        chance.shuffle(rows)
    return tuple(rows)


def one_changed(chance, value, names=(), deep=True):
    """The value with one part otherwise; names may stand in place of others."""
    paths = paths_in(value)
    # The first parts of a value are few beside those of its tables.
    shallow = [path for path in paths if len(path) <= 2]
    path = chance.choice(paths if deep and chance.random() < 0.6 else shallow)
    part = part_at(value, path)
    if chance.random() < 0.15:
        return with_part(value, path, chance.choice(ODD))
    if isinstance(part, tuple):
        return with_part(value, path, other_tuple(chance, part))
    if isinstance(part, int) and not isinstance(part, bool):
        return with_part(value, path, other_number(chance, part))
    if isinstance(part, str) and names:
        return with_part(value, path, chance.choice(names))
    return with_part(value, path, chance.choice(ODD))


def some_changed(chance, value, names=(), many=20):
    for _ in range(many):
        changed = one_changed(chance, value, names)
        if chance.random() < 0.2:
            changed = one_changed(chance, changed, names)
        yield changed
