"""The joined reader: one text, read with two fonts at once."""

from fontgap.checks import is_whole
from fontgap.errors import InvalidState, UnknownLetter
from fontgap.rows import check_letters
from fontgap.stepper import START, Stepper


class Joined:
    """All states to which texts of the common letters lead the readers of two fonts, and the steps between them.

    Everything is found when the object is made, so it keeps no font.
    """

    def __init__(self, first, second):
        self._letters = [letter for letter in first.letters if letter in second]
        self._states = []
        self._numbers = {}
        # For each state the number and the letter of the step that found it.
        self._origins = []
        # For each state a dict of (next, first width, second width) by letter, and the widths of its finish.
        self._steps = []
        self._ends = []
        self._number_of(START + START, (0, ""))
        self._explore(Side(first, self._letters), Side(second, self._letters))

    def __len__(self):
        return len(self._states)

    @property
    def letters(self):
        """The ascending list of the common letters."""
        return list(self._letters)

    def state(self, number):
        """Return the state (first last, first pending, second last, second pending) with a number."""
        self._check_state(number)
        return self._states[number]

    def step(self, number, letter):
        """Return the number of the state after one more letter, and the growth of both totals."""
        self._check_state(number)
        if letter not in self._letters:
            raise UnknownLetter(letter, 0)
        return self._steps[number][letter]

    def finish(self, number):
        """Return for both fonts by how much the width of the whole text is more than the total."""
        self._check_state(number)
        return self._ends[number]

    def run(self, text):
        """Return the number of the state after a text, and both totals."""
        check_letters(self._letters, text)
        number = 0
        first_total = 0
        second_total = 0
        for letter in text:
            number, first_width, second_width = self._steps[number][letter]
            first_total += first_width
            second_total += second_width
        return number, first_total, second_total

    def widths(self, text):
        """Return the widths of a text in both fonts."""
        number, first_total, second_total = self.run(text)
        first_width, second_width = self._ends[number]
        return first_total + first_width, second_total + second_width

    def shortest(self, number):
        """Return the shortest text that leads to a state, and of several the first in string order."""
        self._check_state(number)
        letters = []
        place = number
        # The states are found level by level and in string order, so the first way found is the one asked for.
        while place != 0:
            place, letter = self._origins[place]
            letters.append(letter)
        return "".join(letters[::-1])

    def edges(self):
        """Yield (number, letter, next, first width, second width) for each state and each letter."""
        for number, steps in enumerate(self._steps):
            for letter, (after, first_width, second_width) in steps.items():
                yield number, letter, after, first_width, second_width

    def _check_state(self, number):
        if not is_whole(number) or number < 0 or number >= len(self._states):
            raise InvalidState(number)

    def _explore(self, first, second):
        """Find all states with their steps and their finish."""
        while len(self._steps) < len(self._states):
            number = len(self._steps)
            state = self._states[number]
            first_state = state[:2]
            second_state = state[2:]
            steps = {}
            for letter in self._letters:
                first_after, first_width = first.step(first_state, letter)
                second_after, second_width = second.step(second_state, letter)
                after = self._number_of(first_after + second_after, (number, letter))
                steps[letter] = (after, first_width, second_width)
            self._steps.append(steps)
            self._ends.append((first.finish(first_state), second.finish(second_state)))

    def _number_of(self, state, origin):
        """Return the number of a state, which gets the next number if it was not found before."""
        if state not in self._numbers:
            self._numbers[state] = len(self._states)
            self._states.append(state)
            self._origins.append(origin)
        return self._numbers[state]


class Side:
    """The states of one font's reader, each of which is met in many joined states: its steps are found once only."""

    def __init__(self, font, letters):
        stepper = Stepper(font)
        self._steps = {}
        self._ends = {}
        ahead = [START]
        while len(ahead) > 0:
            state = ahead.pop()
            if state not in self._steps:
                self._steps[state] = {letter: stepper.take(state, letter)[1:] for letter in letters}
                self._ends[state] = stepper.finish(state)[1]
                ahead.extend([after for after, _ in self._steps[state].values()])

    def step(self, state, letter):
        """Return the state after one more letter, and the growth of the total."""
        return self._steps[state][letter]

    def finish(self, state):
        """Return by how much the width of the whole text is more than the total."""
        return self._ends[state]
