"""Whether what came is as it was noted."""


# Reads of which nothing is noted.
LONE_GAP = (None,)


def is_read_as(part, read):
    """Whether a read, (file, content), is as a part of reads tells."""
    file, content = part
    return file in (None, read[0]) and content in (None, read[1])


def is_way_as(parts, way):
    """Whether the way is the parts, gaps being filled with some reads, perhaps none."""
    if parts == LONE_GAP:
        return True
    if None in parts:
        at = parts.index(None)
        if len(way) < at or not is_way_as(parts[:at], way[:at]):
            return False
        return any([is_way_as(parts[at + 1:], way[skip:]) for skip in range(at, len(way) + 1)])
    if len(parts) != len(way):
        return False
    for part, read in zip(parts, way):
        if part[0] not in (None, read[0]) or part[1] not in (None, read[1]):
            return False
    return True


def is_row_as(contents, row):
    """Whether the first contents of the row are these, as far as they are noted."""
    return all([content in (None, found) for content, found in zip(contents, row)])


def is_end_as(noted, end):
    """Whether the end of a run is as it was noted."""
    if noted is None:
        return True
    if noted == "fail" or end == "fail":
        return noted == end
    return is_row_as(noted, end)
