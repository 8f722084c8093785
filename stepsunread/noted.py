"""Whether what came is as it was noted."""


def is_read_as(part, read):
    """Whether a read, (file, content), is as a part of reads tells."""
    file, content = part
    return file in (None, read[0]) and content in (None, read[1])


def is_way_as(parts, way):
    """Whether the way is the parts, gaps being filled with some reads, perhaps none."""
    if not parts:
        return not way
    if parts[0] is None:
        return any([is_way_as(parts[1:], way[at:]) for at in range(len(way) + 1)])
    return bool(way) and is_read_as(parts[0], way[0]) and is_way_as(parts[1:], way[1:])


def is_row_as(contents, row):
    """Whether the first contents of the row are these, as far as they are noted."""
    return all([content in (None, found) for content, found in zip(contents, row)])


def is_end_as(noted, end):
    """Whether the end of a run is as it was noted."""
    if noted is None:
        return True
    if noted == "fail" or end == "fail":
        return noted == end
    return is_row_as(noted, end)
