"""What is to come is tried out on twins: they're like the first ones, and share nothing with them."""

import unittest

from energyturns.crowd import Crowd


def made_crowd():
    crowd = Crowd()
    crowd.welcome(10, -20)
    crowd.welcome(3, -500)
    crowd.welcome(8, -70)
    crowd.dismiss(2)
    crowd.actors[3].effects.append((-4, 9))
    crowd.pass_until_ready()
    crowd.actors[1].act(15)
    crowd.actors[3].spend(6)
    return crowd


def whole(crowd):
    told = dict(vars(crowd))
    told["actors"] = [(number, dict(vars(actor), effects=list(actor.effects)))
                      for number, actor in crowd.actors.items()]
    return told


class Twins(unittest.TestCase):
    def test_they_are_alike(self):
        crowd = made_crowd()
        self.assertEqual(whole(crowd.twin()), whole(crowd))
        self.assertEqual(whole(crowd)["ticks"], 2)
        self.assertEqual(whole(crowd)["actors"][0][1]["spent"], 15)

    def test_what_happens_to_one_does_not_happen_to_the_other(self):
        crowd = made_crowd()
        before = whole(crowd)
        other = crowd.twin()
        other.actors[3].effects.append((5, 5))
        other.pass_until_ready()
        other.actors[1].act(4)
        other.actors[3].spend(4)
        other.dismiss(3)
        other.welcome(1, -1)
        self.assertEqual(whole(crowd), before)

    def test_an_actors_twin_has_effects_of_its_own(self):
        actor = made_crowd().actors[3]
        twin = actor.twin()
        self.assertEqual(vars(twin), vars(actor))
        twin.effects.append((1, 1))
        self.assertEqual(len(actor.effects), 1)


if __name__ == "__main__":
    unittest.main()
