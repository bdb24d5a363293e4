"""A desk for curves, programs and promises."""

from nearcurves.desktexts import is_item_name, item_lines, items_of
from nearcurves.errors import BadName, NoName, NotKept, NothingToRedo, NothingToUndo, TakenName
from nearcurves.promises import Promise, items_for, witness_of


class State:
    """What a desk has: items under names, each one with a number of its own, and the texts of promises."""

    def __init__(self, entries, texts):
        self.entries = entries
        self.texts = texts


class Layer:
    """The states of a desk, or of an attempt or a trial at it: the newest one, those ahead of edits, those taken back.

    The layer ahead is that of what stands around; None for the desk itself.
    """

    def __init__(self, state, ahead):
        self.state = state
        self.ahead = ahead
        self.past = []
        self.future = []

    def edit(self, state):
        """Goes on to a new state by an edit."""
        self.past.append(self.state)
        self.future = []
        self.state = state


class Desk:
    """Items under names, promises about them, and edits that can be undone."""

    def __init__(self, text=""):
        self.made = 0
        self.known = {}
        self.layer = Layer(self.state_with(State({}, ()), text), None)

    def state_with(self, state, text):
        """A state and the items of a text."""
        entries = dict(state.entries)
        for name, item in items_of(text).items():
            self.made = self.made + 1
            entries[name] = (self.made, item)
        return State(entries, state.texts)

    def entry(self, name):
        """The pair (number, item) of any value that is the name of an item."""
        entries = self.layer.state.entries
        if not isinstance(name, str) or name not in entries:
            raise NoName(name)
        return entries[name]

    def witness_in(self, promise, state):
        """None if a promise is kept in a state; otherwise its witness."""
        asked = Promise(promise)
        items = items_for(asked, {name: item for name, (_, item) in state.entries.items()})
        # Items never change; so what has been found for them once, holds.
        numbers = tuple([state.entries[name][0] for name in asked.item_names()])
        key = (asked.kind, asked.row, numbers, tuple(asked.numbers))
        if key not in self.known:
            self.known[key] = witness_of(asked, items)
        return self.known[key]

    def need_kept(self, state):
        """The errors of promises that are not kept in a state."""
        for promise in state.texts:
            witness = self.witness_in(promise, state)
            if witness is not None:
                raise NotKept(promise, witness)

    def make(self, state):
        """Makes an edit, outside of attempts and trials if all promises are kept."""
        if self.layer.ahead is None:
            self.need_kept(state)
        self.layer.edit(state)

    def put(self, text):
        """Puts the items of a text in the places of those with their names, or behind the last one."""
        self.make(self.state_with(self.layer.state, text))

    def drop(self, name):
        """Takes an item away, and all promises that name it."""
        self.entry(name)
        state = self.layer.state
        entries = {other: entry for other, entry in state.entries.items() if other != name}
        self.make(State(entries, tuple([text for text in state.texts if name not in Promise(text).item_names()])))

    def rename(self, name, new):
        """Gives an item a new name, in promises, too."""
        if not is_item_name(new):
            raise BadName(new)
        self.entry(name)
        state = self.layer.state
        if new in state.entries:
            raise TakenName(new)
        entries = {new if other == name else other: entry for other, entry in state.entries.items()}
        self.make(State(entries, tuple([Promise(text).renamed(name, new) for text in state.texts])))

    def keep(self, promise):
        """Makes a promise."""
        state = self.layer.state
        self.witness_in(promise, state)
        self.make(State(state.entries, state.texts if promise in state.texts else (*state.texts, promise)))

    def release(self, promise):
        """Gives up a promise."""
        state = self.layer.state
        if not isinstance(promise, str) or promise not in state.texts:
            raise NoName(promise)
        self.make(State(state.entries, tuple([text for text in state.texts if text != promise])))

    def attempt(self, action):
        """Calls a function with the desk; all that it does is one edit, or nothing if an error is raised."""
        ahead = self.layer
        layer = Layer(ahead.state, ahead)
        self.layer = layer
        try:
            found = action(self)
            if ahead.ahead is None:
                self.need_kept(layer.state)
        finally:
            self.layer = ahead
        ahead.edit(layer.state)
        return found

    def trial(self, action):
        """Calls a function with the desk, and leaves all as it was."""
        ahead = self.layer
        self.layer = Layer(ahead.state, ahead)
        try:
            return action(self)
        finally:
            self.layer = ahead

    def __enter__(self):
        """Begins a trial, at the end of which all is as it was."""
        self.layer = Layer(self.layer.state, self.layer)
        return self

    def __exit__(self, kind, value, trace):
        layer = self.layer
        self.layer = layer.ahead

    def undo(self):
        """Takes back the last edit that stands."""
        layer = self.layer
        if not layer.past:
            raise NothingToUndo()
        layer.future.append(layer.state)
        layer.state = layer.past.pop()

    def redo(self):
        """Does again the edit that was taken back last."""
        layer = self.layer
        if not layer.future:
            raise NothingToRedo()
        layer.past.append(layer.state)
        layer.state = layer.future.pop()

    def lines(self):
        """The text of all items."""
        rows = []
        for name, (_, item) in self.layer.state.entries.items():
            rows.extend([row + "\n" for row in item_lines(name, item)])
        return "".join(rows)

    def names(self):
        """The names of all items, in order."""
        return tuple(self.layer.state.entries)

    def promises(self):
        """The texts of all promises, in order."""
        return self.layer.state.texts

    def get(self, name):
        """The item with a name."""
        return self.entry(name)[1]

    def kept(self, promise):
        """The pair of whether a promise is kept, and its witness."""
        witness = self.witness_in(promise, self.layer.state)
        return witness is None, witness

    def broken(self):
        """The pairs of all promises that are not kept and their witnesses."""
        state = self.layer.state
        found = [(promise, self.witness_in(promise, state)) for promise in state.texts]
        return tuple([(promise, witness) for promise, witness in found if witness is not None])
