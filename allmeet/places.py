"""Places of tellings: their classes, the groups of numbers that lie apart, and rings."""

from allmeet.errors import MeetError


# The classes of the places of tellings. Every told path and beginning has a
# number, the whole 0; a class is known by the number of one of its places.
# Paths that the classes give each other have none, so that a ring, whose paths
# have no end, is held as well.
class Web:
    def __init__(self, tellings):
        self.told = {(): 0}
        self.leads = [0]
        self.inner = [{}]
        for telling in tellings:
            for path in paths_in(telling):
                self.number_path(path)
        for telling in tellings:
            if telling[0] == "same" and telling[3] == 0:
                self.unite(self.told[telling[1]], self.told[telling[2]])
        # By class, by name, in order, the class of that field.
        self.fields = dict([(head, self.fields_of(head)) for head in self.heads()])
        self.order = top_down(self.fields)
        self.groups = groups_of(self.links(tellings))

    def number_path(self, path):
        for length, name in enumerate(path):
            start = path[:length + 1]
            if start not in self.told:
                self.inner[self.told[path[:length]]][name] = len(self.leads)
                self.told[start] = len(self.leads)
                self.leads.append(len(self.leads))
                self.inner.append({})

    # The way is halved while it is gone, so that ways stay short.
    def class_of(self, number):
        while self.leads[number] != number:
            self.leads[number] = self.leads[self.leads[number]]
            number = self.leads[number]
        return number

    def unite(self, one, other):
        waiting = [(one, other)]
        while waiting:
            pair = waiting.pop()
            kept = self.class_of(pair[0])
            gone = self.class_of(pair[1])
            if kept != gone:
                self.leads[gone] = kept
                waiting.extend(self.take_fields(kept, self.inner[gone]))

    # The pairs that are to be one class with it: fields of one name.
    def take_fields(self, kept, fields):
        pairs = [(self.inner[kept][name], fields[name]) for name in fields if name in self.inner[kept]]
        for name in fields:
            self.inner[kept].setdefault(name, fields[name])
        return pairs

    def heads(self):
        return [number for number, lead in enumerate(self.leads) if number == lead]

    def fields_of(self, head):
        return dict([(name, self.class_of(number)) for name, number in sorted(self.inner[head].items())])

    # By class the classes that a telling lays a number apart from it, each with
    # how much more its number is.
    def links(self, tellings):
        found = {}
        for telling in tellings:
            if telling[0] == "same" and telling[3] != 0:
                one = self.class_of(self.told[telling[1]])
                other = self.class_of(self.told[telling[2]])
                found.setdefault(one, []).append((other, -telling[3]))
                found.setdefault(other, []).append((one, telling[3]))
        return found

    # None where it is no place.
    def class_at(self, path):
        here = self.class_of(0)
        for name in path:
            if name not in self.fields[here]:
                return None
            here = self.fields[here][name]
        return here

    def has_ring(self):
        return len(self.order) < len(self.fields)

    def first_on_ring(self):
        if self.has_ring():
            for path in sorted(self.told):
                if self.comes_back(self.class_of(self.told[path])):
                    return path
        return None

    def comes_back(self, head):
        seen = {}
        waiting = [head]
        while waiting:
            here = waiting.pop()
            for inner in self.fields[here].values():
                if inner not in seen:
                    seen[inner] = True
                    waiting.append(inner)
        return head in seen

    # Of each place, in order, a tuple (path, class).
    def walk(self):
        if self.has_ring():
            raise MeetError("a ring has places without end")
        found = []
        waiting = [((), self.class_of(0))]
        while waiting:
            place = waiting.pop()
            found.append(place)
            fields = [(place[0] + (name,), head) for name, head in self.fields[place[1]].items()]
            waiting.extend(list(reversed(fields)))
        return found


def paths_in(telling):
    return [telling[1], telling[2]] if telling[0] == "same" else [telling[1]]


# The classes, each behind all of which it is a field; those on a ring or below
# one never come.
def top_down(fields):
    waits = dict([(head, 0) for head in fields])
    for inner in fields.values():
        for head in inner.values():
            waits[head] = waits[head] + 1
    free = [head for head in fields if waits[head] == 0]
    order = []
    while free:
        here = free.pop()
        order.append(here)
        for head in fields[here].values():
            waits[head] = waits[head] - 1
            if waits[head] == 0:
                free.append(head)
    return order


# Of each group a tuple (numbers, holds): by class its number from the first
# one's, and whether no class lies two numbers apart from one of the group.
def groups_of(links):
    groups = []
    seen = {}
    for first in links:
        if first not in seen:
            numbers = numbers_from(links, first)
            seen.update(numbers)
            groups.append((numbers, all([fits(numbers, links, head) for head in numbers])))
    return groups


def numbers_from(links, first):
    numbers = {first: 0}
    waiting = [first]
    while waiting:
        here = waiting.pop()
        for head, more in links[here]:
            if head not in numbers:
                numbers[head] = numbers[here] + more
                waiting.append(head)
    return numbers


def fits(numbers, links, here):
    return all([numbers[head] == numbers[here] + more for head, more in links[here]])


def places(tellings):
    return [path for path, head in Web(tellings).walk()]


def ring(tellings):
    return Web(tellings).first_on_ring()


def classes(tellings):
    found = {}
    for path, head in Web(tellings).walk():
        found.setdefault(head, []).append(path)
    return list(found.values())


def apart(tellings, one, other):
    web = Web(tellings)
    here = web.class_at(one)
    there = web.class_at(other)
    for numbers, holds in web.groups:
        if holds and here in numbers and there in numbers:
            return numbers[here] - numbers[there]
    return None
