"""What becomes of a list of goals by its first one, rule by rule."""

from goaltrail.marks import done_by_mark
from goaltrail.names import marked, told_anew
from goaltrail.ones import made_one
from goaltrail.puts import written_out
from goaltrail.rules import is_named, word_of


# ("part",), ("ring",) or ("false",) where the way falls, else ("on", goals): those that are then
# still to be asked, told anew.
def fall_of(told, goals):
    if told[0] != "one":
        return (told[0],)
    return ("on", told_anew([written_out(goal, told[1]) for goal in goals]))


# A fall for each rule of a named goal, and one for a goal of a mark. The rules are as by_word
# tells them. Refused with Fault for a sum, with Big where a goal still to be asked is too great.
def falls_of(rules, goals):
    asked = told_anew(goals)
    if not is_named(asked[0]):
        return [fall_of(done_by_mark(asked[0], {}), asked[1:])]
    found = []
    for rule in rules.get(word_of(asked[0]), []):
        told = made_one(asked[0], marked(rule[1], 0), {})
        found.append(fall_of(told, [marked(goal, 0) for goal in rule[2]] + asked[1:]))
    return found
