"""Histories of two runs that do what the caller of some trials does (DOC.md, points 32 and 35)."""

from handedcopies.jointforms import FIRST, JointWriter, read_joint
from handedcopies.labels import RETURNED
from handedcopies.running import Run
from handedcopies.trials import PLAIN, Trial
from handedcopies.turns import Choices


class Replay:
    """Two new runs that do the same deeds, with these deeds."""

    def __init__(self, couple):
        self.deeds = []
        self._couple = couple
        self._runs = [Run(kept) for kept in couple.kepts]
        self._hands = {}

    def play_calm(self, joint, label, taken):
        """Does a calm trial with these choices, from the joint world that the runs have."""
        trial = self._played(joint, label, taken)
        ending = label[2]
        if ending == RETURNED:
            self._play(trial, label[0], trial.turns)
        else:
            self._play(trial, label[0], trial.turns[:ending + 1])
            self._do(("raise",))

    def play_parting(self, joint, label, taken):
        """Does a trial that parts the kepts; if the accounts are equal behind it, a put makes them differ."""
        trial = self._played(joint, label, taken)
        self._play(trial, label[0], trial.turns)
        one, other = self._runs
        if one.account() == other.account():
            hand = self._parting_hand()
            self._put_new(hand, one.hands()[hand][1], 0)

    def _played(self, joint, label, taken):
        trial = Trial(self._couple, read_joint(self._couple.kepts, joint), Choices(taken))
        trial.play(label[0], label[1])
        self._number_held_lists()
        return trial

    def _number_held_lists(self):
        """Finds the hands of the lists that a trial begins with, which it numbers as a joint world meets them."""
        writer = JointWriter()
        for run in self._runs:
            writer.codes_of(run.inside_values())
        self._hands = {-1 - at: hand for at, hand in enumerate(writer.held_hands)}

    def _play(self, trial, method, turns):
        for at, turn in enumerate(turns):
            self._prepare(trial, turn)
            before = len(self._runs[FIRST].hands())
            self._do(self._call(method, turn) if at == 0 else ("reply", self._given(turn.given[0])))
            for behind, number in turn.grasped:
                self._hands[number] = before + behind

    def _prepare(self, trial, turn):
        """Makes and puts what a turn of the trial has."""
        for number in turn.new_lists:
            self._hands[number] = self._do(("make", trial.shape_of(number)))[1]
        for (number, at), chosen in turn.picked.items():
            if chosen < 0:
                self._do(("put", self._hands[number], at, self._hands[chosen]))
            elif number not in turn.new_lists:
                self._do(("put", self._hands[number], at, None))
        for number, at in turn.unread:
            if number not in turn.new_lists:
                self._put_new(self._hands[number], trial.shape_of(number), at)

    def _put_new(self, hand, text, at):
        """Puts a new list or a new value into a list of this shape."""
        part = self._couple.item_texts(text)[at]
        new = None if part == PLAIN else self._do(("make", part))[1]
        self._do(("put", hand, at, new))

    def _call(self, method, turn):
        arguments = [part if isinstance(kind, int) else self._given(part)
                     for kind, part in zip(self._couple.kinds_of(method), turn.given)]
        return ("call", method, tuple(arguments))

    def _given(self, number):
        """What a deed gives for a value with a number of the trial; a plain value is new."""
        return None if number is None or number >= 0 else self._hands[number]

    def _parting_hand(self):
        """A held list that a view of one run shows, and the same view of the other run does not."""
        one, other = self._runs
        for box, other_box in zip(one.viewed_boxes(), other.viewed_boxes()):
            if box.hand != other_box.hand:
                return other_box.hand if box.hand is None else box.hand
        return None

    def _do(self, deed):
        """Does a deed in both runs and gives the report of the second one."""
        self.deeds.append(deed)
        return [run.do(deed) for run in self._runs][-1]
