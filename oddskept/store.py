"""The texts of stocks and of desks."""

from oddskept.codetext import read_code, write_code
from oddskept.desk import Desk
from oddskept.edittext import read_edit, write_edit
from oddskept.errors import BadEdit, BadText
from oddskept.plaintext import read_plain, write_plain
from oddskept.stocks import Stock
from oddskept.textlines import lines_of, words_of
from oddskept.words import is_number


def write_stock(stock):
    """Return the text of a stock."""
    sections = [_section("code", write_code(stock.code))]
    sections.extend([_section("book", write_plain(book)) for _, book in stock.code.parts])
    sections.append(_section("plain", write_plain(stock.plain)))
    return "".join(sections)


def write_desk(desk):
    """Return the text of a desk."""
    sections = [_section("desk", write_stock(desk.first_stock()))]
    for step in desk.all_steps():
        sections.append(_section("step", "".join([write_edit(edit) + "\n" for edit in step])))
    return "".join(sections) + f"done {desk.steps_done}\n"


def _section(word, text):
    """Return a text behind its head line."""
    many = len(lines_of(text))
    return f"{word} {many}\n{text}"


def read_stock(text):
    """Return the stock with this text."""
    code, *books, plain = _stock_sections(lines_of(text))
    parts = [_read_section(book, read_plain) for book in books]
    # What stands behind the word, though it be no name; then the line is malformed.
    names = [line.partition(" ")[2] for line in code[1] if _is_part_line(line)]
    named = dict(zip(names, parts))
    book = _read_section(code, lambda one: read_code(one, named))
    return Stock(book, _read_section(plain, read_plain))


def _stock_sections(lines):
    """Return the list of the sections of a stock, each a tuple (index of its head line, its lines)."""
    _, many = _head_at(lines, 0, ("code",))
    sections = [_section_at(lines, 0, many)]
    wanted = len([line for line in sections[0][1] if _is_part_line(line)])
    word = "code"
    while word != "plain":
        at = _line_behind(sections[-1])
        word, many = _head_at(lines, at, ("book", "plain"))
        if word == "plain" and len(sections) - 1 != wanted:
            raise BadText(at + 1)
        sections.append(_section_at(lines, at, many))
    _check_end(lines, _line_behind(sections[-1]))
    return sections


def _is_part_line(line):
    """Tell whether the first word of a line is that of a part."""
    return line.partition(" ")[0] == "part"


def read_desk(text):
    """Return a new desk with this text."""
    sections, done = _desk_sections(lines_of(text))
    first, *steps = sections
    desk = Desk(_read_section(first, read_stock))
    for step in steps:
        _do_step(desk, step)
    for _ in range(len(steps) - done):
        desk.undo()
    return desk


def _desk_sections(lines):
    """Return the list of the sections of a desk, each a tuple (index of its head line, its lines), and what is done."""
    _, many = _head_at(lines, 0, ("desk",))
    sections = [_section_at(lines, 0, many)]
    at = _line_behind(sections[0])
    word, many = _head_at(lines, at, ("step", "done"))
    while word == "step":
        if many == 0:
            raise BadText(at + 1)
        sections.append(_section_at(lines, at, many))
        at = _line_behind(sections[-1])
        word, many = _head_at(lines, at, ("step", "done"))
    if many >= len(sections):
        raise BadText(at + 1)
    _check_end(lines, at + 1)
    return sections, many


def _do_step(desk, section):
    """Do the step whose edits are the lines of a section."""
    head, lines = section
    edits = []
    for line in lines:
        edit = read_edit(line)
        if edit is None:
            break
        edits.append(edit)
    try:
        desk.apply(edits)
    except BadEdit as e:
        raise BadText(head + 2 + e.index) from None
    if len(edits) < len(lines):
        raise BadText(head + 2 + len(edits))


def _head_at(lines, at, words):
    """Return the word and the number of the head line at an index, which has one of the words."""
    if at >= len(lines):
        raise BadText(len(lines) + 1)
    told = words_of(lines[at], 0)
    if len(told) != 2 or told[0] not in words or not is_number(told[1]):
        raise BadText(at + 1)
    return told[0], int(told[1])


def _section_at(lines, head, many):
    """Return the section of so many lines behind the head line at an index."""
    if head + 1 + many > len(lines):
        raise BadText(len(lines) + 1)
    return (head, lines[head + 1:head + 1 + many])


def _line_behind(section):
    """Return the index of the line behind a section."""
    head, lines = section
    return head + 1 + len(lines)


def _check_end(lines, at):
    """Refuse lines from this index on."""
    if at < len(lines):
        raise BadText(at + 1)


def _read_section(section, read):
    """Return what is read from the lines of a section; the lines of errors are those of the whole text."""
    head, lines = section
    try:
        return read("".join([line + "\n" for line in lines]))
    except BadText as e:
        raise BadText(head + 1 + e.line) from None
