"""Texts that show what this package tells."""


def show_lot(lot):
    """The marks of a lot, or a point if it has none."""
    return " ".join(lot) if lot else "."


def show_rule(rule):
    """What stands ahead, and behind."""
    return f"{show_lot(rule[0])} > {show_lot(rule[1])}"


def show_thing(thing):
    """What a thing has, and lacks."""
    return f"{show_lot(thing[0])} / {show_lot(thing[1])}"


def show_lines(marks, lines):
    """A line of the marks, and further ones behind it."""
    return "\n".join([f"marks {show_lot(marks)}", *lines])


def show_rules(rules):
    """The marks, and a line for each row."""
    return show_lines(rules.marks, [show_rule(row) for row in rules])


def show_table(table):
    """The marks, and a line for each lot."""
    return show_lines(table.marks, [show_lot(lot) for lot in table])


def show_answers(answers):
    """The marks, a line for each yes, and then one for each thing."""
    yeses = [f"yes {show_rule(row)}" for row in answers.yeses]
    things = [f"thing {show_thing(thing)}" for thing in answers]
    return show_lines(answers.marks, yeses + things)


def show_entry(entry):
    """What was done, and with what."""
    word, told = entry[0], entry[1]
    if word == "yes":
        return f"yes {show_rule(told)}"
    if word == "no":
        return f"no {show_rule(told)} : {show_thing(entry[2])}"
    if word == "more":
        return f"more {told} : {show_thing(entry[2])}"
    return f"{word} {told}"


def show_book(book):
    """The marks, and a line for each entry of the log."""
    return show_lines(book.marks, [show_entry(entry) for entry in book])
