"""Tellings: whether a program ends, or is left open by a round of sends on which nothing need get smaller."""

from errandend.errors import NoWay, TooMany
from errandend.sayings import refuse_missing, sends
from errandend.sizes import composed, fit, graphs

MOST_IN_CLOSURE = 40


def closure(program):
    return closure_of(list(enumerate(graphs(program))))


def judged(program):
    return telling_of(closure(program))


def reached(program, name):
    names = [errand[0] for errand in program]
    refuse_missing(name, names)
    steps = sends(program)
    found = {name: True}
    pending = [name]
    while pending:
        sender = pending.pop()
        for step in steps:
            if step[0] == sender and step[1] not in found:
                found[step[1]] = True
                pending.append(step[1])
    return [errand for errand in names if errand in found]


def judged_from(program, name):
    names = reached(program, name)
    numbered = [pair for pair in enumerate(graphs(program)) if pair[1][0] in names]
    return telling_of(closure_of(numbered))


def closure_of(numbered):
    # A list of tuples, a send's number and its graph: for one errand only some sends count, by their own numbers.
    found = []
    for number, graph in numbered:
        put_new(found, graph, (number,))
    place = 0
    while place < len(found):
        ahead = found[place]
        for number, graph in numbered:
            if fit(ahead[0], graph):
                put_new(found, composed(ahead[0], graph), ahead[1] + (number,))
        place += 1
    return found


def put_new(found, graph, way):
    if graph in [pair[0] for pair in found]:
        return
    if len(found) >= MOST_IN_CLOSURE:
        raise TooMany("more than forty pairs in the closure")
    found.append((graph, way))


def telling_of(pairs):
    for graph, way in pairs:
        if is_idle_round(graph):
            return ("open", way)
    return ("ends", [pair[0] for pair in pairs])


def is_idle_round(graph):
    return fit(graph, graph) and composed(graph, graph) == graph and not falls_here(graph)


def falls_here(graph):
    return any([row[place] == 2 for place, row in enumerate(graph[2])])


def holds(program, telling):
    if telling[0] == "open":
        return is_idle_way(program, telling[1])
    return is_closed_up(graphs(program), telling[1])


def is_idle_way(program, way):
    try:
        graph = way_graph(program, way)
    except NoWay:
        return False
    return is_idle_round(graph)


def is_closed_up(sent, told):
    there = dict([(graph, True) for graph in told])
    for graph in sent:
        if graph not in there:
            return False
    for graph in told:
        if is_idle_round(graph):
            return False
        behind = [composed(graph, other) for other in sent if fit(graph, other)]
        if not all([other in there for other in behind]):
            return False
    return True


def falls(program, way):
    graph = way_graph(program, way)
    if not fit(graph, graph):
        raise NoWay("the way does not end where it begins")
    again = graph
    for row in graph[2]:
        if falls_here(again):
            return True
        again = composed(again, graph)
    return False


def way_graph(program, way):
    sent = graphs(program)
    for number in way:
        if number < 0 or number >= len(sent):
            raise NoWay(f"no send has the number {number}")
    if len(way) == 0:
        raise NoWay("a way has one send or more")
    graph = sent[way[0]]
    for number in way[1:]:
        if not fit(graph, sent[number]):
            raise NoWay(f"the send {number} begins at another errand")
        graph = composed(graph, sent[number])
    return graph
