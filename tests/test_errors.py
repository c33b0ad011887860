"""Point 4: the errors, what they keep."""

import inspect
import unittest

from meettasks import errors

KEPT = (
    "BadValues(index), BadStart(thing), BadDeeds(name), BadEntries(name), BadThings(name), BadBody(task, path), "
    "NoTask(task), NoPath(path), NoThing(thing), BadOrder(index), NoStand(number), BadSpots(thing), Endless(order), "
    "BadEvents(thing), NoDeed(thing), BadStretch(thing), BadKind(kind), BadMany(thing), NotClosing(task), "
    "BadTasks(index), BadOffers(index), BadSentence(name), BadTruth(thing), BadMarks(index), NoEntryName(entry), "
    "BadNames(index), BadNumber(number), BadCalls(index), UnlikeNames(), BadServers(task, path), BadLike(path), "
    "BadWanted(thing), NoSpot(thing), BadStep(index), Restless(task, path), BadRow(index), BadLot(thing), "
    "BadStates(index), UnlikeEntries(), BadMachine(thing), NoEntry(owner, entry), BadJobs(job), NoJob(job), "
    "BadComings(job), BadCeiling(ceiling), BadEnds(job), BadTimed(task, path), BadFates(thing), NoNote(word), "
    "NoComing(pair), BadCourse(thing), BadCode(task, number), Silent(task, spot), BadCuts(index), NoRow(number), "
    "BadLog(index), BadGap(number), BadEvent(event), BadApart(task), BadLine(thing), BadKinds(index), "
    "BadText(index), BadOpen(index), BadFilling(task), BadAsk(thing), BadName(name), BadThing(thing), Lacks(name), "
    "NotOf(name), NoName(name), Needed(name, by), Nothing()")


def kept_names():
    rows = [row.strip(", )").split("(") for row in KEPT.split("),")]
    return [(name, [part.strip() for part in parts.split(",") if part.strip()]) for name, parts in rows]


class ErrorsTest(unittest.TestCase):

    def test_base(self):
        self.assertEqual(errors.TaskError.__bases__, (ValueError,))
        self.assertIsInstance(errors.TaskError(), ValueError)

    def test_all_are_listed(self):
        found = [name for name, thing in vars(errors).items() if inspect.isclass(thing)]
        self.assertEqual(sorted(found), sorted([name for name, _ in kept_names()] + ["TaskError"]))
        self.assertEqual(len(kept_names()), 72)

    def test_direct_subclasses_keep_the_very_objects(self):
        for name, parts in kept_names():
            made_of = getattr(errors, name)
            self.assertEqual(made_of.__bases__, (errors.TaskError,), name)
            objects = [[part, {}] for part in parts]
            by_place = made_of(*objects)
            by_name = made_of(**dict(zip(parts, objects)))
            for error in (by_place, by_name):
                for part, thing in zip(parts, objects):
                    self.assertIs(getattr(error, part), thing)
                with self.assertRaises(errors.TaskError):
                    raise error


if __name__ == "__main__":
    unittest.main()
