"""Faces: differences of two voices, one for all those that some tests do not tell apart."""

from tacthouse.moments import does_part_hold

LOWEST = -132
HIGHEST = 132


def face_marks(parts, difference):
    """Which of some parts of TESTS hold when the voice 0 is so much above the voice 1."""
    moment = ((difference, False, None), (0, False, None))
    return tuple([does_part_hold(part, moment) for part in parts if part[0] in ("apart", "class")])


def faces_by(parts):
    """The FACES that some parts of TESTS tell apart, ascending."""
    least = {}
    for difference in range(LOWEST, HIGHEST + 1):
        least.setdefault(face_marks(parts, difference), difference)
    return sorted(list(least.values()))


def face_like(parts, faces, difference):
    """The one of the FACES by parts of TESTS that is alike with a difference, any integer."""
    marks = face_marks(parts, difference)
    return [face for face in faces if face_marks(parts, face) == marks][0]
