"""Texts of loops for the tests: a few that are told by hand, and many that are drawn."""

import random

FOLD = "tags t\nsums a\nstate s\non t go r\na = x\nend none\nstate r\non t go r\na = a + x\nend a"
BACK = "tags t\nsums a\nstate s\non t go r\na = x\nend none\nstate r\non t go r\na = x + a\nend a"
SWAP = (
    "tags t u\nsums a b\nstate s\non t go p\na = x\nb = x\non u go s\nend none\n"
    "state p\non t go p\na = b\nb = a + x\non u go s\na = none\nb = none\nend ( a + ( b ) )"
)
KEPT = (
    "tags t u\nsums a b\nstate s\non t go r\na = x\nb = ( x )\non u go s\nb = none\nend none\n"
    "state r\non t go r\na = b\nb = a + x\non u go r\na = x\nend a"
)
SILENT = "tags t\nsums\nstate s\non t go s\nend none"
DOUBLED = "tags t\nsums a\nstate s\non t go s\na = x + x\nend none"


class Draw:
    """Draws texts of loops, the same ones each time for the same number."""

    def __init__(self, number):
        self.draw = random.Random(number)

    def bracketed(self, parts):
        """The words of an expression with these parts, in this order."""
        if len(parts) == 1:
            return parts if self.draw.random() < 0.8 else ["(", *parts, ")"]
        at = self.draw.randrange(1, len(parts))
        left, right = self.bracketed(parts[:at]), self.bracketed(parts[at:])
        if "+" in right and right[0] != "(" or self.draw.random() < 0.2:
            right = ["(", *right, ")"]
        return [*left, "+", *right]

    def shared_out(self, pool, names):
        """A dict from some of the names to rows of parts from the pool, each part once."""
        pool = self.draw.sample(pool, self.draw.randrange(len(pool) + 1))
        found = {name: [] for name in names}
        for part in pool:
            if names:
                found[self.draw.choice(names)].append(part)
        return {name: parts for name, parts in found.items() if parts}

    def lines(self, found):
        lines = [f"{name} = {' '.join(self.bracketed(parts))}" for name, parts in found.items()]
        self.draw.shuffle(lines)
        return lines

    def careless(self, tags, sums, states):
        """A text in which empty sums may be used."""
        text = [" ".join(["tags", *tags]), " ".join(["sums", *sums])]
        for state in states:
            text.append(f"state {state}")
            for tag in tags:
                text.append(f"on {tag} go {self.draw.choice(states)}")
                left = self.draw.sample(sums, self.draw.randrange(len(sums) + 1))
                found = self.shared_out([*sums, "x", "x", "x"][:-1], left)
                text += self.lines(found)
                text += [f"{name} = none" for name in left if name not in found and self.draw.random() < 0.5]
            told = self.draw.sample(sums, self.draw.choice([0] * 3 + list(range(len(sums) + 1))))
            text.append(" ".join(["end", *(self.bracketed(told) if told else ["none"])]))
        return "\n".join(text)

    def careful(self, tags, sums, states, items=2):
        """A text in which no empty sum is used: each state has sums that always hold something there."""
        full = {state: self.draw.sample(sums, self.draw.randrange(1, len(sums) + 1)) for state in states}
        full[states[0]] = []
        text = [" ".join(["tags", *tags]), " ".join(["sums", *sums])]
        for state in states:
            text.append(f"state {state}")
            goals = [goal for goal in states if len(full[goal]) <= len(full[state]) + items]
            for tag in tags:
                goal = self.draw.choice(goals)
                text += [f"on {tag} go {goal}", *self.lines_to(full[state], full[goal], sums, items)]
            told = self.draw.sample(full[state], len(full[state]))[self.draw.randrange(2):]
            end = self.bracketed(told) if told else ["none"]
            text.append(" ".join(["end", *end]))
        return "\n".join(text)

    def lines_to(self, full, wanted, sums, items):
        """Assignments behind which all wanted sums hold something if the full ones did."""
        kept = [name for name in wanted if name in full and self.draw.random() < 0.5]
        parts = [name for name in full if name not in kept] + ["x"] * items
        self.draw.shuffle(parts)
        found = {name: [parts.pop()] for name in wanted if name not in kept}
        more = [name for name in sums if name not in wanted]
        for name in self.draw.sample(more, self.draw.randrange(len(more) + 1)):
            found[name] = []
        for part in parts:
            if found and self.draw.random() < 0.7:
                found[self.draw.choice(list(found))].append(part)
        lines = [f"{name} = none" for name, told in found.items() if not told]
        return self.lines({name: told for name, told in found.items() if told}) + lines

    def spoiled(self, tags, sums, states):
        """A careful text without one of its assignments, so that perhaps an empty sum is used."""
        lines = self.careful(tags, sums, states).split("\n")
        assigned = [at for at, line in enumerate(lines) if " = " in line]
        if assigned:
            del lines[self.draw.choice(assigned)]
        return "\n".join(lines)


class Busy(Draw):
    """Draws texts of loops that have many results, in which most items stand."""

    def busy(self, tags, sums, states, items=1):
        """A text with so many x behind each line at most, in which no empty sum is used."""
        full = {}
        for at, state in enumerate(states):
            many = self.draw.randrange((at + 1) // 2, at * items + 1) if at else 0
            full[state] = self.draw.sample(sums, min(many, len(sums)))
        text = [" ".join(["tags", *tags]), " ".join(["sums", *sums])]
        for state in states:
            text.append(f"state {state}")
            goals = [goal for goal in states if len(full[goal]) <= len(full[state]) + items]
            lively = [goal for goal in goals if full[goal]] or goals
            for tag in tags:
                goal = self.draw.choice(lively if self.draw.random() < 0.9 else goals)
                text += [f"on {tag} go {goal}", *self.busy_lines(full[state], full[goal], sums, items)]
            told = full[state] if self.draw.random() < 0.7 else self.some(full[state])
            told = self.draw.sample(told, len(told)) if self.draw.random() < 0.8 else []
            text.append(" ".join(["end", *(self.bracketed(told) if told else ["none"])]))
        return "\n".join(text)

    def some(self, parts):
        return [part for part in parts if self.draw.random() < 0.6]

    def busy_lines(self, full, wanted, sums, items):
        """Assignments that move most of what there is into the wanted sums."""
        parts = [part for part in [*full, *["x"] * items] if self.draw.random() < 0.9]
        while len(parts) < len(wanted):
            parts = [*full, *["x"] * items]
        self.draw.shuffle(parts)
        found = {name: [] for name in wanted}
        for at, part in enumerate(parts):
            free = [name for name in wanted if not found[name]]
            kept = part in free and self.draw.random() < 0.6
            if wanted and (len(free) < len(parts) - at or free):
                name = part if kept else self.draw.choice(free if len(free) >= len(parts) - at else wanted)
                found[name].append(part)
        lines = self.lines({name: told for name, told in found.items() if told != [name]})
        unused = [name for name in sums if name not in wanted and name not in parts]
        return lines + [f"{name} = none" for name in unused if self.draw.random() < 0.2]
