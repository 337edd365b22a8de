"""What a deed saw and what it wrote, kept in layers until the deed ends."""


class Log:
    def __init__(self):
        self.stack = [{}]
        self.last_seen = {}

    def write(self, box, number):
        top = self.stack[-1]
        top[box] = number

    def own(self, box):
        for layer in reversed(self.stack):
            if box in layer:
                return layer[box]
        return None

    def begin(self):
        self.stack.append({})

    def settle(self):
        top = self.stack.pop()
        beneath = self.stack[-1]
        beneath.update(top)

    def drop(self):
        self.stack.pop()

    def layers(self):
        return len(self.stack)

    def see(self, box, number):
        self.last_seen[box] = number

    def saw(self):
        return sorted(self.last_seen.items())

    def wrote(self):
        lowest = self.stack[0]
        return sorted(lowest.items())
