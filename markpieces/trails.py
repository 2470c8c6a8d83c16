"""Trails: the paths through a pattern's rails that have just the marks of one row."""

from markpieces.rails import FIRST, LAST, marks_behind


class Trails:
    """The paths of rails through a text whose marks at each place are just those asked for.

    alive has, for each place, what can still come to the end: (station, marks so far there).
    """

    def __init__(self, rails, text, asked):
        self.rails = rails
        self.text = text
        self.asked = asked
        self.backward = edges_back(rails)
        self.alive = [{} for one in asked]
        for place in range(len(text), -1, -1):
            self.look_back(place)

    def look_back(self, place):
        """Fills in what is alive at the place, from what is at the next one."""
        alive = self.alive[place]
        waiting = self.ready(place)
        while waiting:
            here = waiting.pop()
            if here not in alive:
                alive[here] = True
                waiting.extend(self.ahead_of(here))

    def ready(self, place):
        """A list of what is alive because it has its marks and reads on, or is at the end."""
        asked = self.asked[place]
        if place == len(self.text):
            return [(LAST, asked)]
        found = []
        for station, edges in enumerate(self.rails.edges):
            if any([self.reads_on(edge, place) for edge in edges]):
                found.append((station, asked))
        return found

    def reads_on(self, edge, place):
        """Whether the edge reads the sign at the place, and is alive behind it."""
        other, deed, what = edge
        if deed != "read" or place == len(self.text):
            return False
        return self.text[place] in self.rails.signs[what] and (other, 0) in self.alive[place + 1]

    def ahead_of(self, here):
        """A list of what leads to the one station by one edge without a read."""
        station, marks = here
        found = []
        for other, mark in self.backward[station]:
            if (mark & marks) == mark:
                found.append((other, marks ^ mark))
        return found

    def through(self, place, station, most):
        """At most so many (edges, station) by which one goes from the station beyond the place."""
        asked = self.asked[place]
        found = []
        waiting = [(station, 0, ())]
        while waiting and len(found) < most:
            at, marks, edges = waiting.pop()
            if at == LAST:
                found.append((edges, at))
            for edge in self.rails.edges[at]:
                other, deed, what = edge
                if deed == "read":
                    if marks == asked and self.reads_on(edge, place):
                        found.append(((*edges, edge), other))
                elif (other, marks_behind(marks, deed, what)) in self.alive[place]:
                    waiting.append((other, marks_behind(marks, deed, what), (*edges, edge)))
        return found[:most]

    def paths(self, most):
        """A list of unlike paths, lists of edges: all there are, but at most so many."""
        # Whatever is alive leads to the end, so it does no harm to keep only so many at each place.
        begun = [((), FIRST)]
        for place in range(len(self.asked)):
            known = {}
            longer = []
            for stretches, station in begun:
                if station not in known:
                    known[station] = self.through(place, station, most)
                longer.extend([((*stretches, edges), other) for edges, other in known[station]])
                if len(longer) >= most:
                    break
            begun = longer[:most]
        return [in_one(stretches) for stretches, station in begun]


def edges_back(rails):
    """For each station a list of (station, mark's bit or 0) from which an edge without a read leads to it."""
    back = [[] for edges in rails.edges]
    for station, edges in enumerate(rails.edges):
        for other, deed, what in edges:
            if deed != "read":
                back[other].append((station, marks_behind(0, deed, what)))
    return back


def in_one(stretches):
    """One list of the edges of all the stretches."""
    return [edge for edges in stretches for edge in edges]


def way_along(path):
    """The whole way that the path, a list of edges, is."""
    place = 0
    ways = [[]]
    for other, deed, what in path:
        if deed == "read":
            ways[-1].append(place)
            place += 1
        elif deed == "open":
            ways.append([])
        elif deed == "shut":
            inner = ways.pop()
            ways[-1].append(tuple(inner))
        elif deed == "pick":
            inner = ways.pop()
            ways[-1].append((what, inner[0]))
    return ways[0][0]
