"""Small works, and books, marks and questions about them, by chance."""

from stepsunread.questions import is_question
from tests import reference, slow
from tests.stories import Story, blotted, chance_links

# Works with so few programs that all worlds of small books can be gone through.
SMALL = (
    "file a 2\nfile c 2\nstep cut tree 1\n  reads a\n  writes c",
    "file a 2\nfile b 2\nfile c 2\nstep cut row 2\n  reads a b\n  writes c\n  claim if a = 0 and b = 0 then c = 1\n"
    "  claim ends\n  claim if a = 1 then c != 0\nstep mix flat 1\n  reads c\n  writes b\n  claim ends",
    "file x 2\nfile y 2\nstep p tree 1\n  reads x\n  writes y\n  claim if x = 0 then ends\n"
    "step q flat 1\n  reads y\n  writes x\n  claim if y = 1 then x != 0",
    "file a 2\nfile c 2\nfile d 2\nstep two flat 1\n  reads a\n  writes c d\n  claim if a = 0 then c = 0",
    "file a 2\nfile b 2\nfile x 2\nstep add sums 2\n  reads a b\n  writes x",
    "file a 2\nfile b 2\nfile c 2\nstep cut flat 1\n  reads a b\n  writes c\nstep mix tree 0\n  reads c\n  writes b",
)
WORDS = (
    "stood ran wrote had does uses run same moves keeps would fresh still swept sweeps turns rests aside apart"
).split()

# Questions of which a book may have none.
RARE = ("ran", "had", "same", "aside", "apart")


def chance_question(chance, work, book, words=WORDS):
    """A question about the book."""
    sizes = slow.sizes(work)

    def stand():
        return tuple(chance.randrange(size) for size in work.sizes)

    def contents(files):
        return tuple(sorted((file, chance.randrange(sizes[file])) for file in files))

    while True:
        word = chance.choice(words)
        log, step, other = chance.randrange(len(book)), chance.choice(work.steps), chance.choice(work.steps)
        file, moment = chance.choice(work.files), chance.randrange(len(book[log]) + 1)
        some = tuple(sorted(chance.sample(work.files, chance.randint(0, len(work.files)))))
        way = list(contents(chance.sample(work.reads(step), chance.randint(0, len(work.reads(step))))))
        chance.shuffle(way)
        parts = {
            "stood": (log, moment, file), "ran": (log, moment), "wrote": (log, moment, file),
            "had": (log, moment, chance.randrange(2), file), "does": (step, tuple(way)), "uses": (step, file),
            "run": (step, stand()), "same": (step, other, stand()),
            "moves": (step, stand(), file, chance.randrange(sizes[file])), "keeps": (step, stand(), some),
            "would": (log, step), "fresh": (log, step), "still": (log,), "swept": (log, file), "sweeps": (log,),
            "turns": (log, contents(some[:2])), "rests": (), "aside": (log, step, other), "apart": (step, other)}[word]
        if is_question(work, book, (word,) + parts):
            return (word,) + parts
        if word in RARE and chance.random() < 0.1:
            # There may be no such question at all.
            words = [item for item in words if item not in RARE] or ["rests"]


def spoiled(chance, book):
    """The book with something noted otherwise."""
    rows = [list(log) for log in book]
    for row in rows:
        for at, event in enumerate(row):
            if chance.random() < 0.15:
                row[at] = spoiled_event(chance, event)
    return tuple(map(tuple, rows))


def spoiled_event(chance, event):
    """The event with other contents, of files of which all have two."""
    word = event[0]
    if word in ("saw", "set"):
        return event[:2] + (chance.randrange(2),)
    if word == "reads":
        return event[:2] + (tuple((file, chance.randrange(2)) for file, _ in event[2]),)
    if word in ("run", "end") and isinstance(event[-1], tuple):
        return event[:-1] + (chance.choice(["fail", tuple(chance.randrange(2) for _ in event[-1])]),)
    return event


def chance_book(chance, work, many=4):
    """A book that some world may fit."""
    crew = tuple(chance.choice(slow.programs_of(work, step)) for step in work.steps)
    story = Story(chance, work, crew, chance_links(chance), chance.randint(1, many))
    book = blotted(chance, story.book(), chance.choice([0, 0.2, 0.4, 0.7]))
    return spoiled(chance, book) if chance.random() < 0.5 else book


def chance_marks(chance, book):
    """Some marks of events, often none."""
    marks = slow.marks_of(book)
    return tuple(sorted(chance.sample(marks, min(len(marks), chance.choice([0, 0, 1, 2, 3])))))


def many_worlds(work, book):
    """How many worlds a book has at most, whatever is noted."""
    many = 1
    for log in book:
        if slow.starts_fresh(log):
            for size in work.sizes:
                many *= size
        elif log[0][0] == "beside":
            many *= len(reference.weavings(log[1:], reference.plain(book[log[0][1]])))
        for event in log:
            many *= 2 if event[0] == "set" else 1
    for step in work.steps:
        many *= len(slow.programs_of(work, step))
    return many
