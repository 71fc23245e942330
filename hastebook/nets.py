"""The net of pipes that works and needs make, and how just so much is led through it as an end or a bonus asks for.

Each work has two places in the net, one where it begins and one where it is done. Two pipes join them:
the one has the usual hours and as much room as the price, the other the least hours and room for all.
So the hours of all pipes, times what goes through them, come to what the works are worth in a stream.
Each pipe has a way back, whose room is what flows through the pipe and may be taken out of it again.
"""

from hastebook.needs import needed_works

SOURCE = 0
SINK = 1


class Pipe:
    def __init__(self, tail, head, hours, room):
        self.tail = tail
        self.head = head
        self.hours = hours
        self.room = room
        self.back = None


class Net:
    def __init__(self, works, needs, bonus=0):
        self.pipes = []
        self.places = 2 * len(works) + 2
        # Where more goes through than all prices together, some of it takes the least hours all along its
        # way. No end from the least one on asks for that, but a bonus may: so this room is never used up.
        plenty = sum([work[2] for work in works]) + bonus + 1
        for number, work in enumerate(works):
            self.lay(SOURCE, begin_place(number), 0, plenty)
            self.lay(begin_place(number), done_place(number), work[0], work[2])
            self.lay(begin_place(number), done_place(number), work[1], plenty)
            self.lay(done_place(number), SINK, 0, plenty)
        for second, firsts in enumerate(needed_works(len(works), needs)):
            for first in firsts:
                self.lay(done_place(first), begin_place(second), 0, plenty)

    def lay(self, tail, head, hours, room):
        pipe = Pipe(tail, head, hours, room)
        back = Pipe(head, tail, -hours, 0)
        pipe.back = back
        back.back = pipe
        self.pipes.append(pipe)

    # The end is to be the least one or a greater one; what was led through for a greater end may stay.
    def fill(self, end):
        moments = self.moments(0)
        while moments[SINK] > end:
            route = tight_route(self.open_pipes(), moments)
            pour(route, room_on(route))
            moments = self.moments(0)

    # Needs a work to lead it through, and an amount no greater than the bonus that the net was made for.
    def lead(self, amount):
        missing = amount - self.amount()
        while missing > 0:
            route = tight_route(self.open_pipes(), self.moments(0))
            pour(route, min(missing, room_on(route)))
            missing = amount - self.amount()

    # The least moments, none below 0 and the sink's not below the end, between which all open pipes' hours fit.
    def moments(self, end):
        found = [0 for place in range(self.places)]
        found[SINK] = end
        pipes = self.open_pipes()
        while raise_moments(found, pipes):
            pass
        return found

    def open_length(self):
        return self.moments(0)[SINK]

    def open_pipes(self):
        both = self.pipes + [pipe.back for pipe in self.pipes]
        return [pipe for pipe in both if pipe.room > 0]

    def amount(self):
        return sum([pipe.back.room for pipe in self.pipes if pipe.tail == SOURCE])

    def stream(self):
        flows = {}
        # By places and not by pipes, so that both pipes of a work don't part a way into two lists.
        for pipe in self.pipes:
            step = (pipe.tail, pipe.head)
            flows[step] = flows.get(step, 0) + pipe.back.room
        rows = []
        route = flowing_route(flows)
        while route:
            rows.append([take_out(flows, route)] + works_on(route))
            route = flowing_route(flows)
        return rows


def begin_place(work):
    return 2 * work + 2


def done_place(work):
    return 2 * work + 3


def work_at(place):
    return place // 2 - 1


def raise_moments(moments, pipes):
    raised = False
    for pipe in pipes:
        reached = moments[pipe.tail] + pipe.hours
        if reached > moments[pipe.head]:
            moments[pipe.head] = reached
            raised = True
    return raised


# Of the longest routes one with the fewest pipes: so their number hangs on the net alone, not on how great
# the prices are.
def tight_route(pipes, moments):
    tight = [pipe for pipe in pipes if moments[pipe.tail] + pipe.hours == moments[pipe.head]]
    routes = {SOURCE: []}
    while SINK not in routes:
        routes.update(next_routes(routes, tight))
    return routes[SINK]


def next_routes(routes, pipes):
    fresh = {}
    for pipe in pipes:
        if pipe.tail in routes and pipe.head not in routes:
            fresh[pipe.head] = routes[pipe.tail] + [pipe]
    return fresh


def room_on(route):
    return min([pipe.room for pipe in route])


def pour(route, amount):
    for pipe in route:
        pipe.room -= amount
        pipe.back.room += amount


# What flows into a place flows out of it again: only where nothing leaves the source is there no route.
def flowing_route(flows):
    route = []
    steps = steps_from(SOURCE, flows)
    while steps:
        route.append(steps[0])
        steps = steps_from(steps[0][1], flows)
    return route


def steps_from(place, flows):
    return [step for step in flows if step[0] == place and flows[step] > 0]


def take_out(flows, route):
    amount = min([flows[step] for step in route])
    for step in route:
        flows[step] -= amount
    return amount


# From the source on, every second step leads through a work.
def works_on(route):
    return [work_at(tail) for tail, head in route[1::2]]
