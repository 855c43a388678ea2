"""A program's text: rows that tell marks, and rules."""

from goaltrail.errors import NoRule, NoSign, NoText
from goaltrail.reader import read_rule
from goaltrail.rules import rule
from goaltrail.signs import first_signs, with_sign
from goaltrail.words import is_number

INFIX = "infix"
MOST_RULES = 40


# A blank alone parts words: a tab, and what else Python's own split takes for one, does not.
def words_of(row):
    return [word for word in row.split(" ") if word]


def with_told(signs, words):
    if len(words) != 4:
        raise NoSign(f"behind {INFIX} stands something else than a mark, a rank and a side")
    if not is_number(words[2]):
        raise NoSign("a rank is no number")
    return with_sign(signs, words[1], int(words[2]), words[3])


def with_read(rules, row, signs):
    told = read_rule(row, signs)
    if len(rules) == MOST_RULES:
        raise NoRule(f"there are more than {MOST_RULES} rules")
    return rules + [rule(told[0], told[1])]


# The program as it stands behind a row.
def with_row(program, row):
    words = words_of(row)
    if not words:
        return program
    if words[0] == INFIX:
        return (with_told(program[0], words), program[1])
    return (program[0], with_read(program[1], row, program[0]))


# What is refused within a row does not know the row's number.
def with_numbered(program, row, number):
    try:
        return with_row(program, row)
    except NoSign as error:
        raise NoSign(str(error), number) from error
    except NoText as error:
        raise NoText(str(error), number) from error
    except NoRule as error:
        raise NoRule(str(error), number) from error


def program_of(text):
    program = (first_signs(), [])
    for place, row in enumerate(text.split("\n")):
        program = with_numbered(program, row, place + 1)
    return program
