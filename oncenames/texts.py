"""Texts: programs and forms written in rows, and read again."""

from oncenames.errors import NoText
from oncenames.looker import GREATEST_MEASURE, LEAST_MEASURE, is_name, refuse_unless_good
from oncenames.programs import OPS, parts_of_deed, parts_of_ending
from oncenames.ways import BEGIN, blocks_of_ending

SIGNS = {"plus": "+", "less": "-", "times": "*", "below": "<", "same": "="}
OPS_OF_SIGNS = {"+": "plus", "-": "less", "*": "times", "<": "below", "=": "same"}
FIGURES = "0123456789"
MOST_FIGURES = 10


def show_program(program):
    """The program's text."""
    measure, blocks = program
    shown = [f"measure {measure}"]
    for block, (deeds, ending) in enumerate(blocks):
        shown.append(f"block {block}")
        shown.extend(body_shown(deeds, ending))
    return "\n".join(shown)


def show_form(form):
    """The form's text."""
    measure, rows = form
    shown = [f"measure {measure}"]
    for block, joins, deeds, ending in rows:
        shown.append(f"block {block}")
        shown.extend([join_shown(once, parts) for once, parts in joins])
        shown.extend(body_shown(deeds, ending))
    return "\n".join(shown)


def body_shown(deeds, ending):
    return [deed_shown(deed) for deed in deeds] + [ending_shown(ending)]


def join_shown(once, parts):
    came = [f"{from_shown(source)}:{part_shown(part)}" for source, part in parts]
    listed = ", ".join(came)
    return f"join {name_shown(once)} = {listed}"


def from_shown(source):
    return "begin" if source == BEGIN else str(source)


def deed_shown(deed):
    if deed[0] == "tell":
        return f"tell {part_shown(deed[1])}"
    return f"put {name_shown(deed[1])} = {worth_shown(deed[2])}"


def ending_shown(ending):
    if ending[0] == "go":
        return f"go {ending[1]}"
    if ending[0] == "choose":
        return f"choose {part_shown(ending[1])} {ending[2]} {ending[3]}"
    return "stop"


def worth_shown(worth):
    if worth[0] in OPS:
        return f"{part_shown(worth[1])} {SIGNS[worth[0]]} {part_shown(worth[2])}"
    return part_shown(worth)


def part_shown(part):
    return str(part[1]) if part[0] == "number" else name_shown(part[1])


def name_shown(name):
    """A program's name, or a form's once-name."""
    return name if isinstance(name, str) else f"{name[0]}.{name[1]}"


def read_program(text):
    """The program whose text it is."""
    measure, groups = read_groups(text)
    blocks = []
    for rows in groups:
        # Blocks are counted from 0: so the number needn't be read.
        must_be(rows[0] == f"block {len(blocks)}")
        blocks.append(read_body(rows[1:], read_name))
    must_be(LEAST_MEASURE <= measure <= GREATEST_MEASURE)
    for deeds, ending in blocks:
        must_be(all([block < len(blocks) for block in blocks_of_ending(ending)]))
        parts = [part for deed in deeds for part in parts_of_deed(deed)] + parts_of_ending(ending)
        must_be(all([part[1] < measure for part in parts if part[0] == "number"]))
    return (measure, blocks)


def read_form(text):
    """The form whose text it is."""
    measure, groups = read_groups(text)
    form = (measure, [read_row(rows) for rows in groups])
    refuse_unless_good(form)
    return form


def must_be(holds):
    if not holds:
        raise NoText("that is no text of a program or form")


def read_groups(text):
    """The measure, and for each block a list of its rows."""
    rows = text.split("\n")
    groups = []
    for row in rows[1:]:
        if row.startswith("block "):
            groups.append([])
        must_be(len(groups) > 0)
        groups[-1].append(row)
    must_be(len(groups) > 0)
    return read_headed(rows[0], "measure"), groups


def read_headed(row, word):
    """The number behind the word."""
    words = row.split(" ")
    must_be(len(words) == 2 and words[0] == word)
    return read_number(words[1])


def read_row(rows):
    """A row of a form."""
    block = read_headed(rows[0], "block")
    heads = [row for row in rows if row.startswith("join ")]
    # A join behind a deed is left among the deeds, and is none.
    deeds, ending = read_body(rows[1 + len(heads):], read_once)
    return (block, [read_join(row) for row in heads], deeds, ending)


def read_body(rows, read_called):
    """The deeds and the ending, names read as told."""
    must_be(len(rows) > 0)
    return ([read_deed(row, read_called) for row in rows[:-1]], read_ending(rows[-1], read_called))


def read_join(row):
    words = row.split(" ")
    must_be(len(words) > 3 and words[2] == "=")
    listed = " ".join(words[3:])
    parts = [read_came(came) for came in listed.split(", ")]
    must_be(all([came[0] < other[0] for came, other in zip(parts, parts[1:])]))
    return (read_once(words[1]), parts)


def read_came(text):
    source, colon, part = text.partition(":")
    return (BEGIN if source == "begin" else read_number(source), read_part(part, read_once))


def read_deed(row, read_called):
    words = row.split(" ")
    if len(words) == 2 and words[0] == "tell":
        return ("tell", read_part(words[1], read_called))
    must_be(len(words) > 3 and words[0] == "put" and words[2] == "=")
    return ("put", read_called(words[1]), read_worth(words[3:], read_called))


def read_worth(words, read_called):
    if len(words) == 1:
        return read_part(words[0], read_called)
    must_be(len(words) == 3 and words[1] in OPS_OF_SIGNS)
    return (OPS_OF_SIGNS[words[1]], read_part(words[0], read_called), read_part(words[2], read_called))


def read_ending(row, read_called):
    words = row.split(" ")
    if words == ["stop"]:
        return ("stop",)
    if len(words) == 2 and words[0] == "go":
        return ("go", read_number(words[1]))
    must_be(len(words) == 4 and words[0] == "choose")
    return ("choose", read_part(words[1], read_called), read_number(words[2]), read_number(words[3]))


def read_part(text, read_called):
    # No name begins with a figure.
    if text[:1].isdigit():
        return ("number", read_number(text))
    return ("name", read_called(text))


def read_name(text):
    must_be(is_name(text))
    return text


def read_once(text):
    name, dot, k = text.partition(".")
    return (read_name(name), read_number(k))


def read_number(text):
    must_be(1 <= len(text) <= MOST_FIGURES and all([sign in FIGURES for sign in text]))
    must_be(text[0] != "0" or text == "0")
    return int(text)
