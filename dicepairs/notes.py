"""Dice as texts."""

from dicepairs.dice import GREATEST_FACE, MOST_FACES, need_die
from dicepairs.errors import BadText


def die_text(die):
    """Return the faces of the die as they stand, single blanks between; or raise BadDie."""
    need_die(die)
    return " ".join([str(face) for face in die])


def die_of(text):
    """Return the die that the text writes, its faces as they stand; or raise BadText."""
    if not isinstance(text, str):
        raise BadText("a text of a die is a text")
    # Only the words by which faces are written count: 007, +7 and signs beyond ASCII do not.
    face_of = {str(face): face for face in range(GREATEST_FACE + 1)}
    words = text.split(" ")
    if len(words) > MOST_FACES or not all([word in face_of for word in words]):
        raise BadText(f"a text of a die has 1 to {MOST_FACES} faces, single blanks between")
    return [face_of[word] for word in words]
