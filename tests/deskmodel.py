"""A desk told line by line with the functions of the other modules."""
from remadedays.cycles import Cycle
from remadedays.hung import hung, roots
from remadedays.lateness import least_rule, stands
from remadedays.lots import lots
from remadedays.rings import ring
from remadedays.rules import Keeping, Rule
from remadedays.settled import settled
from remadedays.texts import web_text
from remadedays.webs import Web
from textmodel import ties_of


class Told:
    """What a desk has, and had ahead of each line that can be taken back."""

    def __init__(self):
        self.past = [(Web(Cycle(7)), Rule(), Keeping())]

    def ask(self, line):
        """The answer of a line the words of which can stand; raises what the functions raise."""
        web, rule, keeping = self.past[-1]
        word, *words = line.split(" ")
        numbers = [int(one) if one.lstrip("-").isdigit() else one for one in words]
        if word == "undo":
            if len(self.past) == 1:
                return "nothing"
            self.past.pop()
            return "ok"
        if word == "cycle":
            web = Web.of(Cycle(*numbers), {name: web[name] for name in web})
        elif word == "table":
            web = web.put(words[0], ties_of(words[1:]))
        elif word == "drop":
            web = web.without(words[0])
        elif word == "rule":
            rule = rule.put(*numbers)
        elif word == "keep":
            keeping = keeping.put(*numbers)
        else:
            return answer(web, rule, keeping, word, numbers).replace("\n", " ; ")
        self.past.append((web, rule, keeping))
        return "ok"


def answer(web, rule, keeping, word, told):
    """The answer of a line that only asks, with its newlines."""
    if word == "show":
        return web_text(web)
    if word in ("hung", "roots"):
        return str((hung if word == "hung" else roots)(web, *told))
    if word == "sound":
        return "sound" if ring(web) is None else "ring " + " ".join(f"{name} {day}" for name, day in ring(web))
    if word in ("settled", "state"):
        found = settled(web, rule, keeping, *told[:3])
        if word == "state":
            return found.state(*told[3:])
        return f"right {found.right} stale {found.stale} half {found.half}"
    if word == "stands":
        nights = stands(web, rule, keeping).nights
        return "all" if nights is None else str(nights)
    if word == "least":
        return str(least_rule(web, None if told[0] == "all" else told[0]))
    nights = lots(web, *told)
    return "never" if nights is None else str(nights)
