"""Works out what lies within one another without calls within calls, so that no depth fells it."""


class Begun:
    def __init__(self, within, finish):
        self.within = within
        self.finish = finish
        self.results = []


# `begin` is handed a task and gives a pair: the list of the tasks within it, and a function that is
# handed the list of their results and gives the task's own. Tasks are done in their order.
def worked_out(task, begin):
    waiting = [Begun([task], only_one)]
    while True:
        last = waiting[-1]
        if len(last.results) < len(last.within):
            pair = begin(last.within[len(last.results)])
            waiting.append(Begun(pair[0], pair[1]))
        else:
            finish = last.finish
            result = finish(last.results)
            waiting.pop()
            if len(waiting) == 0:
                return result
            waiting[-1].results.append(result)


def only_one(results):
    return results[0]
