"""Goes through bodies, plain and held ones alike, without calls within calls, so that no depth fells it."""


# The bodies right within a body, in the text's order, each with the names bound on the way to it.
def ways_on(body):
    if body[0] == "give":
        return []
    if body[0] == "if":
        return [((), body[2]), ((), body[3])]
    if body[0] == "case":
        return [(arm[1], arm[-1]) for arm in body[2]]
    if body[0] in ("let", "hold"):
        return [((body[1],), body[-1])]
    return [((), body[-1])]


def bodies_within(body):
    return [way[1] for way in ways_on(body)]


# The body with these in the place of those right within it.
def with_bodies(body, within):
    if body[0] == "give":
        return body
    if body[0] == "if":
        return body[:2] + tuple(within)
    if body[0] == "case":
        return ("case", body[1], tuple([arm[:-1] + (one,) for arm, one in zip(body[2], within)]))
    return body[:-1] + tuple(within)


# All bodies that lie in a body, itself first, in the text's order.
def bodies_in(body):
    found = []
    left = [body]
    while len(left) > 0:
        one = left.pop()
        found.append(one)
        for within in reversed(bodies_within(one)):
            left.append(within)
    return found


class Begun:
    def __init__(self, within, finish):
        self.within = within
        self.finish = finish
        self.results = []


# `begin` is handed a task and gives a pair: the list of the tasks within it, and a function that is
# handed the list of their results and gives the task's own. Tasks are done in their order.
def worked_out(task, begin):
    waiting = [Begun([task], only_one)]
    while True:
        last = waiting[-1]
        if len(last.results) < len(last.within):
            pair = begin(last.within[len(last.results)])
            waiting.append(Begun(pair[0], pair[1]))
        else:
            finish = last.finish
            result = finish(last.results)
            waiting.pop()
            if len(waiting) == 0:
                return result
            waiting[-1].results.append(result)


def only_one(results):
    return results[0]
