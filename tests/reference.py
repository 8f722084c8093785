"""The document's words, followed literally and slowly: what tests hold the program against."""

import itertools
import re


def step_told(text, step):
    """What the text of a work tells of one step, and of all files."""
    lines = text.split("\n")
    files = [(line.split()[1], int(line.split()[2])) for line in lines if line.startswith("file ")]
    at = [k for k, line in enumerate(lines) if line.startswith("step %s " % step)][0]
    told = {"sizes": dict(files), "kind": lines[at].split()[2], "most": int(lines[at].split()[3]), "claims": []}
    told["reads"] = lines[at + 1].split()[1:]
    told["writes"] = lines[at + 2].split()[1:]
    for line in lines[at + 3:]:
        if not line.startswith("  claim "):
            break
        told["claims"].append(line[len("  claim "):])
    return told


def ends(told):
    rows = itertools.product(*[range(told["sizes"][file]) for file in told["writes"]])
    return [("end", row) for row in rows] + [("fail",)]


def trees(told, read=()):
    """All programs that the first rules allow: files that the step reads, none twice, at most MOST."""
    found = ends(told)
    if len(read) < told["most"]:
        for file in told["reads"]:
            if file not in read:
                below = trees(told, read + (file,))
                for branches in itertools.product(below, repeat=told["sizes"][file]):
                    found.append(("read", file, branches))
    return found


def paths(program, way=()):
    """(way, what stands behind it) for each way down."""
    if program[0] != "read":
        return [(way, program)]
    rows = []
    for content, branch in enumerate(program[2]):
        rows += paths(branch, way + ((program[1], content),))
    return rows


def is_of_kind(told, program):
    rows = paths(program)
    files = [tuple(file for file, _ in way) for way, _ in rows]
    if told["kind"] == "tree":
        return True
    if told["kind"] == "row":
        return all(len(set(f[k] for f in files if len(f) > k)) <= 1 for k in range(told["most"]))
    if told["kind"] == "flat":
        return len(set(files)) == 1
    if set(files) != {tuple(told["reads"])} or any(end == ("fail",) for _, end in rows):
        return False
    return all(is_sum(told, rows, place) for place in range(len(told["writes"])))


def is_sum(told, rows, place):
    size = told["sizes"][told["writes"][place]]
    for k, *weights in itertools.product(range(size), repeat=len(told["reads"]) + 1):
        if all((k + sum(w * c for w, (_, c) in zip(weights, way))) % size == end[1][place] for way, end in rows):
            return True
    return False


def run_down(program, contents):
    """(way, end) of a run; contents by files."""
    way = []
    while program[0] == "read":
        way.append((program[1], contents[program[1]]))
        program = program[2][contents[program[1]]]
    return tuple(way), program[1] if program[0] == "end" else "fail"


def keeps(told, claim, program):
    head, end = claim.rsplit("then ", 1) if claim.startswith("if ") and " then " in claim else ("", claim)
    conditions = re.findall("([a-z]+) = ([0-9]+)", head)
    files = list(told["sizes"])
    for row in itertools.product(*[range(told["sizes"][file]) for file in files]):
        contents = dict(zip(files, row))
        if all(contents[file] == int(content) for file, content in conditions):
            if not has_end(told, end, run_down(program, contents)[1]):
                return False
    return True


def has_end(told, claim, end):
    if claim == "fails":
        return end == "fail"
    if claim == "ends":
        return end != "fail"
    file, sign, content = claim.split(" ")
    if end == "fail":
        return sign == "!="
    is_same = end[told["writes"].index(file)] == int(content)
    return is_same if sign == "=" else not is_same


def all_programs(text, step):
    """All programs of a step."""
    told = step_told(text, step)
    return [program for program in trees(told) if is_of_kind(told, program)
            and all(keeps(told, claim, program) for claim in told["claims"])]


def things_done(program):
    """What a program does, by the ways that it comes to."""
    done = {}

    def go(place, way):
        if place[0] == "read":
            done[way] = place[:2]
            for content, branch in enumerate(place[2]):
                go(branch, way + ((place[1], content),))
        else:
            done[way] = place

    go(program, ())
    return done


def weavings(one, other):
    """All weavings of two logs without after and beside, 1 for the one's events."""
    found = []
    for chosen in itertools.combinations(range(len(one) + len(other)), len(one)):
        row = tuple(1 if k in chosen else 0 for k in range(len(one) + len(other)))
        left = {1: list(one), 0: list(other)}
        if is_fair([(item, left[item].pop(0)) for item in row]):
            found.append(row)
    return found


def is_fair(rows):
    """Whether never two runs of one step are at a time."""
    running = {}
    for _, event in rows:
        if event[0] in ("run", "begin") and event[1] in running:
            return False
        if event[0] == "begin":
            running[event[1]] = True
        if event[0] in ("end", "break"):
            del running[event[1]]
    return True


def told_way(parts, way):
    """Whether a way is as parts tell, each gap standing for each number of reads."""
    if None not in parts:
        return len(parts) == len(way) and all(
            (f is None or f == g) and (c is None or c == d) for (f, c), (g, d) in zip(parts, way))
    at = parts.index(None)
    return any(told_way(parts[:at] + ((None, None),) * many + parts[at + 1:], way) for many in range(5))


def told_end(noted, end):
    if noted is None:
        return True
    if isinstance(noted, str) or isinstance(end, str):
        return noted == end
    return all(a is None or a == b for a, b in zip(noted, end))


def plain(log):
    return log[1:] if log and log[0][0] in ("after", "beside") else log


def go_through(work, book, world):
    """(stands, misfits) of a world."""
    crew, firsts, hands, weaves = world
    rows, wrong, lasts = {}, [], {}
    for at, log in enumerate(book):
        if log and log[0][0] == "beside":
            continue
        partner = [k for k, other in enumerate(book) if other and other[0] == ("beside", at)]
        stand = dict(zip(work.files, lasts[log[0][1]] if log and log[0][0] == "after" else firsts[at]))
        numbers = [at] + partner
        come = [(at, event) for event in range(len(log)) if log[event][0] != "after"]
        if partner:
            queues = {0: come, 1: [(partner[0], k) for k in range(1, len(book[partner[0]]))]}
            come = [queues[item].pop(0) for item in weaves[partner[0]]]
        snap = tuple(stand[file] for file in work.files)
        for number in numbers:
            rows[number] = [snap] + ([snap] if len(plain(book[number])) < len(book[number]) else [])
        written = {number: 0 for number in numbers}
        left = {}
        for number, event in come:
            note = book[number][event]
            hand = None
            if note[0] == "set":
                hand = hands[number][written[number]]
                written[number] += 1
            if not happens(work, crew, stand, left, note, hand):
                wrong.append((number, event))
            rows[number].append(tuple(stand[file] for file in work.files))
        for number in numbers:
            lasts[number] = tuple(stand[file] for file in work.files)
    return tuple(tuple(rows[k]) for k in range(len(book))), tuple(sorted(wrong))


def happens(work, crew, stand, left, note, hand):
    """Let one event come; whether it is as noted. left: programs of the runs under way."""
    word, name = note[:2]
    if word == "set":
        stand[name] = hand
        return note[2] is None or note[2] == hand
    if word == "saw":
        return note[2] is None or note[2] == stand[name]
    program = crew[work.steps.index(name)]
    files = work.writes(name)
    if word == "begin":
        left[name] = program
        return True
    if word == "run":
        way, end = run_down(program, stand)
        if end != "fail":
            stand.update(zip(files, end))
        return told_way(note[2], way) and told_end(note[3], end)
    if word == "reads":
        is_so = True
        for file, content in note[2]:
            place = left[name]
            if place[0] != "read":
                is_so = False
                continue
            found = stand[place[1]]
            left[name] = place[2][found]
            is_so = is_so and file in (None, place[1]) and content in (None, found)
        return is_so
    place = left.pop(name)
    if word == "break" and note[2] == ():
        return True
    way, end = run_down(place, stand)
    if word == "end":
        if end != "fail":
            stand.update(zip(files, end))
        return way == () and told_end(note[2], end)
    if end == "fail":
        return False
    stand.update(zip(files[:len(note[2])], end))
    return way == () and told_end(note[2], end[:len(note[2])])
