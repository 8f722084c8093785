"""Which runs of a book need not be worked out: those that nothing hangs on."""


def is_mute(event, mark, left):
    """Whether the event, a whole run, tells nothing."""
    if mark in left:
        return True
    return event[3] is None and event[2] != () and not [part for part in event[2] if part is not None]


def go_back(outline, left, number, needed, idle):
    """The files whose contents are needed at the beginning of the log, if these are needed at its end.

    Both are dicts with files as keys; idle gathers the marks of runs that need not be worked out.
    """
    work, log = outline.work, outline.book[number]
    for at in range(len(log) - 1, -1, -1):
        event = log[at]
        word, name = event[0], event[1]
        if word == "set":
            needed = {file: True for file in needed if file != name}
        elif word == "saw":
            if event[2] is not None and (number, at) not in left:
                needed[name] = True
        elif word == "run" and is_mute(event, (number, at), left):
            # It may fail, and then leaves what stood there: so files that it writes are needed ahead of it, too.
            if [file for file in work.parts[name].outputs if file in needed]:
                needed = joined(needed, work.parts[name].inputs)
            else:
                idle[number, at] = True
        elif word in ("run", "reads", "end", "break"):
            needed = joined(needed, work.parts[name].inputs)
    return needed


def go_back_woven(outline, left, numbers, needed, idle):
    """The same for a pair of logs: what is needed behind any of its events may be needed behind all of them."""
    work = outline.work
    mute = []
    for number in numbers:
        for at, event in enumerate(outline.book[number]):
            word, name = event[0], event[1]
            if word == "run" and is_mute(event, (number, at), left):
                mute.append((number, at))
            elif word in ("run", "reads", "end", "break"):
                needed = joined(needed, work.parts[name].inputs)
            elif word == "saw" and event[2] is not None and (number, at) not in left:
                needed = joined(needed, (name,))
    many = -1
    while len(needed) != many:
        many = len(needed)
        for number, at in mute:
            part = work.parts[outline.book[number][at][1]]
            if [file for file in part.outputs if file in needed]:
                needed = joined(needed, part.inputs)
    for number, at in mute:
        if not [file for file in work.parts[outline.book[number][at][1]].outputs if file in needed]:
            idle[number, at] = True
    return needed


def joined(needed, files):
    """The files that are needed, and these."""
    return {file: True for file in list(needed) + list(files)}


def idle_marks(outline, left, needs):
    """The marks of whole runs on which nothing hangs but, perhaps, what comes in logs that are not needed."""
    everything = joined({}, outline.work.files)
    idle = {}
    # By logs: what is needed at their end.
    ends = {number: {} for number in range(len(outline.book))}
    for numbers in reversed(outline.groups):
        if [number for number in numbers if number in needs]:
            needed = everything
        elif len(numbers) > 1:
            needed = go_back_woven(outline, left, numbers, joined(ends[numbers[0]], ends[numbers[1]]), idle)
        else:
            needed = go_back(outline, left, numbers[0], joined({}, ends[numbers[0]]), idle)
        link = outline.links[numbers[0]]
        if link is not None:
            ends[link[1]] = joined(ends[link[1]], needed)
    return tuple(idle)
