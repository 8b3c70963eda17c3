"""The texts of plans, and reading them."""

from fewhands.checks import LETTERS, LONGEST
from fewhands.errors import InvalidText
from fewhands.forms import DONE, has_right_number, is_word_of_plans


def text_of(plan):
    """The text of a plan."""
    if not isinstance(plan, tuple):
        return plan
    parts = ", ".join([text_of(part) for part in plan[1:]])
    return f"{plan[0]}({parts})"


def _word_end(text, at):
    """Where the word ends that starts at this place."""
    end = at
    while end < len(text) and end - at < LONGEST and text[end] in LETTERS:
        end += 1
    if end == at:
        raise InvalidText(at)
    return end


def _next_part(text, at, word, many):
    """Where the next part starts, if one can follow so many parts of the word and the text goes on to it."""
    if not has_right_number(word, many + 1) or text[at:at + 1] != ",":
        raise InvalidText(at)
    if text[at + 1:at + 2] != " ":
        raise InvalidText(at + 1)
    return at + 2


def _read_parts(text, at, word, is_within):
    """The plan with this word whose first part starts at this place, and where it ends."""
    if word == "then" and text[at:at + 1] == ")":
        return DONE, at + 1
    parts = []
    while True:
        part, at = read_part(text, at, is_within)
        parts.append(part)
        if text[at:at + 1] == ")" and has_right_number(word, len(parts)):
            return (word, *parts), at + 1
        at = _next_part(text, at, word, len(parts))


def read_part(text, at, is_within):
    """The plan that starts at this place of the text, and where it ends; it may stand within a "beside"."""
    end = _word_end(text, at)
    word = text[at:end]
    if text[end:end + 1] != "(":
        return word, end
    if not is_word_of_plans(word) or is_within and word == "beside":
        raise InvalidText(end)
    return _read_parts(text, end + 1, word, is_within or word == "beside")
