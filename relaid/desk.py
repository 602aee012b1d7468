"""The desk: a line that is changed by deeds and asked by questions, both told as rows."""

from relaid.charts import Chart
from relaid.deeds import line_behind
from relaid.errors import BadRow
from relaid.questions import answer
from relaid.texts import read, written


class Desk:
    def __init__(self, text):
        # The line ahead of each deed that can be taken back, and last the line as it stands.
        self.lines = [read(text)]
        self.chart = None

    def do(self, row):
        # Where no deed is left a `back` is a row like any other that is no deed.
        if row == "back" and self.left() > 0:
            self.lines.pop()
        else:
            self.lines.append(self.unless_refused(line_behind(self.lines[-1], row)))
        self.chart = None

    def ask(self, row):
        # Many questions may be asked of one line, so its chart is made once.
        if self.chart is None:
            self.chart = Chart(self.lines[-1])
        return self.unless_refused(answer(self.chart, row))

    def unless_refused(self, told):
        if told is None:
            raise BadRow(self.left() + 1)
        return told

    def left(self):
        return len(self.lines) - 1

    def text(self):
        return written(self.lines[-1])
