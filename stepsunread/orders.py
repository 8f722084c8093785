"""Programs of the kinds tree, row and flat: how many ways there are to go on.

What is known of a program is a dict of what it does behind ways; behind each
of these ways it is known to read on as the way tells.
"""

from itertools import permutations

from stepsunread.forms import is_thing
from stepsunread.rules import Breaks


# So many answers are kept, as they are asked for again and again.
MOST_KEPT = 2000


def power(number, many):
    """The product of so many factors, each of them the number."""
    total = 1
    for _ in range(many):
        total = total * number
    return total


class Check:
    """Looks at a value that may be a program, from its first read down."""

    def __init__(self, part, breaks):
        self.part = part
        self.breaks = breaks
        # The files that are read behind no read, one read, and so on; the numbers of reads ahead of ends.
        self.levels = {}
        self.depths = {}

    def can_stand(self, value, files, bits):
        """Whether the value can stand behind reads of these files that break off these rules."""
        if not isinstance(value, tuple) or not value:
            return False
        part = self.part
        if value[0] != "read":
            self.depths[len(files)] = True
            return is_thing(part, value) and (not part.rules or value in self.breaks.ends_left(bits))
        # The depth is bounded here, as values may be nested deeper than Python can go.
        if len(value) != 3 or len(files) == part.most or value[1] not in part.inputs or value[1] in files:
            return False
        _, file, branches = value
        if part.kind != "tree" and self.levels.setdefault(len(files), file) != file:
            return False
        if not isinstance(branches, tuple) or len(branches) != part.widths[file]:
            return False
        beyond = files + (file,)
        content = 0
        for branch in branches:
            off = bits | self.breaks.off_by((file, content)) if self.breaks.broken else 0
            if not self.can_stand(branch, beyond, off):
                return False
            content += 1
        return True


class Orders:
    """All programs of a step of the kind tree, row or flat."""

    def __init__(self, part):
        self.part = part
        self.breaks = Breaks(part)
        # How many ways to go on there are, by what can be read and the rules that are broken off.
        self.trees = {}
        self.rows = {}
        # What trees do, by ways.
        self.tree_things = {}
        # What programs do where claims are to be kept, by ways and what is known.
        self.ruled_things = {}

    def is_program(self, value):
        """Whether the value is one of these programs."""
        check = Check(self.part, self.breaks)
        if not check.can_stand(value, (), 0):
            return False
        return self.part.kind != "flat" or len(check.depths) == 1

    def has_programs(self):
        """Whether there is any program."""
        # One that ends at once will do, where claims let it.
        return self.breaks.ends_left(0) != [] or self.count({}) > 0

    def free_tree(self, files, bits):
        """How many ways a tree can go on where these files are not read yet."""
        if (files, bits) not in self.trees:
            part = self.part
            total = len(self.breaks.ends_left(bits))
            if len(part.inputs) - len(files) < part.most:
                for at, file in enumerate(files):
                    rest = files[:at] + files[at + 1:]
                    many = 1
                    for content in range(part.widths[file]):
                        many = many * self.free_tree(rest, bits | self.breaks.off_by((file, content)))
                    total += many
            self.trees[files, bits] = total
        return self.trees[files, bits]

    def free_row(self, files, is_flat, bits):
        """How many ways to go on there are if these files are read, in this sequence; in a flat one, all of them."""
        if (files, is_flat, bits) not in self.rows:
            total = 0 if is_flat and files else len(self.breaks.ends_left(bits))
            if files:
                many = 1
                for content in range(self.part.widths[files[0]]):
                    many = many * self.free_row(files[1:], is_flat, bits | self.breaks.off_by((files[0], content)))
                total += many
            self.rows[files, is_flat, bits] = total
        return self.rows[files, is_flat, bits]

    def files_by_depth(self, known):
        """The files that are known to be read behind no read, one read, and so on; None if no row can do all this."""
        found = {}
        for way, thing in known.items():
            if thing[0] == "read" and found.setdefault(len(way), thing[1]) != thing[1]:
                return None
        # Behind each way all its reads are known: so no depth lacks.
        return tuple([found[depth] for depth in range(len(found))])

    def last_depth(self, known, levels):
        """The number of reads on each way of a flat program: -1 if it is open, -2 if none can do what is known."""
        depths = [len(way) for way, thing in known.items() if thing[0] != "read"]
        if not depths:
            return -1
        return depths[0] if min(depths) == max(depths) == len(levels) else -2

    def keep_rules(self, known):
        """Whether all ends that are known keep the claims."""
        if not self.part.rules:
            return True
        for way, thing in known.items():
            if thing[0] != "read" and thing not in self.breaks.ends_left(self.breaks.off_behind(way)):
                return False
        return True

    def open_ways(self, known):
        """The ways to which programs come by what is known, and behind which nothing is."""
        if not known:
            return [()]
        rows = []
        for way, thing in known.items():
            if thing[0] == "read":
                for content in range(self.part.widths[thing[1]]):
                    beyond = way + ((thing[1], content),)
                    if beyond not in known:
                        rows.append(beyond)
        return rows

    def open_places(self, known):
        """How many of the open ways there are of each (depth, rules that are broken off)."""
        places = {}
        for way in self.open_ways(known):
            place = len(way), self.breaks.off_behind(way)
            places[place] = places.get(place, 0) + 1
        return places

    def count(self, known):
        """How many programs do what is known."""
        if not self.keep_rules(known):
            return 0
        if self.part.kind == "tree":
            return self.count_trees(known)
        levels = self.files_by_depth(known)
        if levels is None:
            return 0
        return self.count_rows(known, levels) if self.part.kind == "row" else self.count_flats(known, levels)

    def count_trees(self, known):
        """How many trees do what is known."""
        total = 1
        for way in self.open_ways(known):
            seen = [read[0] for read in way]
            files = tuple([file for file in self.part.inputs if file not in seen])
            total = total * self.free_tree(files, self.breaks.off_behind(way))
        return total

    def count_along(self, places, order, is_flat):
        """How many ways there are to go on from the open places along the order."""
        total = 1
        for (depth, bits), many in places.items():
            total = total * power(self.free_row(order[depth:], is_flat, bits), many)
        return total

    def orders(self, levels):
        """All sequences of files that begin with these, and can be read."""
        rest = [file for file in self.part.inputs if file not in levels]
        rows = []
        for many in range(self.part.most - len(levels) + 1):
            rows += [levels + more for more in permutations(rest, many)]
        return rows

    def count_rows(self, known, levels):
        """How many rows do what is known."""
        places = self.open_places(known)
        total = 0
        for order in self.orders(levels):
            # Rows that do not come to the last file of an order go along the order without it, too:
            # each order is counted once for itself, and taken off for each that is one file longer.
            longer = len(self.part.inputs) - len(order) if len(order) < self.part.most else 0
            if longer != 1:
                total += (1 - longer) * self.count_along(places, order, False)
        return total

    def count_flats(self, known, levels):
        """How many flat programs do what is known."""
        depth = self.last_depth(known, levels)
        if depth == -2:
            return 0
        places = self.open_places(known)
        orders = self.orders(levels) if depth == -1 else [levels]
        return sum([self.count_along(places, order, True) for order in orders])

    def is_possible(self, known):
        """Whether some program does what is known."""
        part = self.part
        if not self.keep_rules(known):
            return False
        if part.kind == "tree":
            return not part.rules or self.count_trees(known) > 0
        levels = self.files_by_depth(known)
        if levels is None:
            return False
        if part.kind == "flat":
            depth = self.last_depth(known, levels)
            return depth != -2 and (not part.rules or self.count_flats(known, levels) > 0)
        if not part.rules:
            return True
        places = self.open_places(known)
        longest = [order for order in self.orders(levels) if len(order) == part.most]
        return any([self.count_along(places, order, False) > 0 for order in longest])

    def things_at(self, known, way):
        """What programs that do what is known, which some do, do behind the way, to which what is known leads."""
        if self.part.kind == "tree":
            # What is known elsewhere tells nothing of what trees do here.
            if way not in self.tree_things:
                self.tree_things[way] = self.tree_things_at(way)
            return self.tree_things[way]
        if self.part.rules:
            key = way, tuple(known.items())
            if key not in self.ruled_things:
                if len(self.ruled_things) == MOST_KEPT:
                    self.ruled_things.clear()
                self.ruled_things[key] = self.things(known, way)
            return self.ruled_things[key]
        level = [thing for other, thing in known.items() if len(other) == len(way)]
        reads = [thing for thing in level if thing[0] == "read"][:1]
        if self.part.kind == "flat" and reads:
            return tuple(reads)
        found = list(self.breaks.ends)
        # All ways of a flat program end behind equally many reads.
        if len(way) < self.part.most and (self.part.kind == "row" or not level):
            found += reads or self.reads_behind(way)
        return tuple(found)

    def reads_behind(self, way):
        """All reads of files that were not read yet."""
        seen = [read[0] for read in way]
        return [("read", file) for file in sorted(self.part.inputs) if file not in seen]

    def tree_things_at(self, way):
        """What trees do behind the way."""
        part = self.part
        bits = self.breaks.off_behind(way)
        found = list(self.breaks.ends_left(bits))
        if len(way) < part.most:
            seen = [read[0] for read in way]
            for thing in self.reads_behind(way):
                file = thing[1]
                rest = tuple([other for other in part.inputs if other not in seen and other != file])
                offs = [bits | self.breaks.off_by((file, content)) for content in range(part.widths[file])]
                if all([self.free_tree(rest, off) > 0 for off in offs]):
                    found.append(thing)
        return tuple(found)

    def things(self, known, way):
        """What programs that do what is known, and come to the way, of which nothing is known, do there."""
        ends = self.breaks.ends_left(self.breaks.off_behind(way))
        found = list(ends) if ends and self.can_do(known, way, ends[0]) else []
        if len(way) < self.part.most:
            seen = [read[0] for read in way]
            for file in sorted(self.part.inputs):
                if file not in seen and self.can_do(known, way, ("read", file)):
                    found.append(("read", file))
        return tuple(found)

    def can_do(self, known, way, thing):
        """Whether some program does what is known, and this thing behind the way."""
        known[way] = thing
        is_so = self.is_possible(known)
        del known[way]
        return is_so
