"""Sayings, errands and programs: how a program is looked through, and the numbers of its sends."""

from errandend.errors import NoSuch, Twice, WrongCount


def looked(program):
    refuse_twice([errand[0] for errand in program])
    for errand in program:
        refuse_twice(errand[1])
    counts = dict([(errand[0], len(errand[1])) for errand in program])
    for errand in program:
        for saying in in_order(errand[2]):
            refuse_wrong(saying, errand[1], counts)
    return len(sends(program))


def sends(program):
    found = []
    for errand in program:
        for saying in in_order(errand[2]):
            if saying[0] == "send":
                found.append((errand[0], saying[1]))
    return found


def in_order(body):
    # A list of what is still to come, in the place of calls within calls: nothing hangs on how deep Python lets
    # these go. The last one put there is the first one taken, so the sayings in a saying go in backwards.
    found = []
    pending = [body]
    while pending:
        saying = pending.pop()
        found.append(saying)
        for part in reversed(parts(saying)):
            pending.append(part)
    return found


def parts(saying):
    if saying[0] in ("name", "bud"):
        return ()
    if saying[0] == "send":
        return saying[2]
    return saying[1:]


def refuse_twice(names):
    seen = {}
    for name in names:
        if name in seen:
            raise Twice(f"{name} stands twice")
        seen[name] = True


def refuse_wrong(saying, params, counts):
    if saying[0] == "name":
        refuse_missing(saying[1], params)
    elif saying[0] == "send":
        refuse_missing(saying[1], counts)
        refuse_miscounted(saying[1], saying[2], counts[saying[1]])


def refuse_missing(name, known):
    if name not in known:
        raise NoSuch(f"there is no {name} here")


def refuse_miscounted(name, row, needed):
    given = len(row)
    if given != needed:
        raise WrongCount(f"{name} needs {needed}, not {given}")
