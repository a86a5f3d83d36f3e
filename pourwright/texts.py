"""How items and rows are written as texts, and read from them."""

from pourwright.errors import NoRow
from pourwright.items import MOST_ITEMS, is_tag

MOST_FIGURES = 40


def show_item(item):
    if item[1] == "":
        return str(item[0])
    return str(item[0]) + ":" + item[1]


def show_row(row):
    return " ".join([show_item(item) for item in row])


def are_figures(text):
    # Each number has one way to be written, so a nought leads no other figure.
    if not 1 <= len(text) <= MOST_FIGURES or (text[0] == "0" and text != "0"):
        return False
    return all(["0" <= sign <= "9" for sign in text])


def is_key_text(text):
    if text.startswith("-"):
        return text != "-0" and are_figures(text[1:])
    return are_figures(text)


def is_item_text(word):
    parts = word.partition(":")
    if parts[1] == ":" and parts[2] == "":
        return False
    return is_key_text(parts[0]) and is_tag(parts[2])


def read_item(word):
    parts = word.partition(":")
    return (int(parts[0]), parts[2])


def read_row(text):
    if not isinstance(text, str):
        raise NoRow(0)
    # Without this, the text without signs would be one word that writes no item.
    if text == "":
        return []
    row = []
    for at, word in enumerate(text.split(" ")):
        if at >= MOST_ITEMS or not is_item_text(word):
            raise NoRow(at)
        row.append(read_item(word))
    return row
