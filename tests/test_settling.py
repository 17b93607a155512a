import random
import unittest

from helpers import TOP
from restitch.codes import OPS
from restitch.settling import Foresight, Settler
from restitch.symbols import Pool


class Settlers(unittest.TestCase):
    def test_it_settles_as_the_pool_does(self):
        for seed in range(400):
            chance = random.Random(seed)
            pool = Pool()
            settler = Settler(pool)
            terms = [pool.term(("in", number)) for number in range(1, 7)] + [pool.word(w) for w in (0, 1, 255, TOP, 7)]
            terms += [pool.term(("load", k)) for k in range(chance.choice((2, 20)))]
            words = {}
            for _ in range(60):
                kind = chance.random()
                if kind < 0.6:
                    terms.append(pool.normal(chance.choice(OPS[:21]), chance.choice(terms[-25:]), chance.choice(terms)))
                elif kind < 0.8:
                    t = chance.choice(terms)
                    self.assertEqual(settler.settled(t), pool.settled(words, t))
                else:
                    t = settler.settled(chance.choice(terms))
                    if pool.node(t)[0] != "word":
                        words[t] = chance.choice((0, 1, 5, TOP))
                        settler.learn(t, words[t])
            for t in terms:
                self.assertEqual(settler.settled(t), pool.settled(words, t), seed)

    def test_a_long_chain_of_terms(self):
        pool = Pool()
        settler = Settler(pool)
        first = t = pool.term(("in", 1))
        for k in range(20000):
            t = pool.normal("xor", t, pool.term(("load", k)))
        settler.learn(pool.term(("load", 19999)), 0)
        self.assertNotEqual(settler.settled(t), t)
        settler.learn(first, 5)
        self.assertEqual(settler.settled(t), pool.settled({first: 5, pool.term(("load", 19999)): 0}, t))

    def test_foresight_learns_by_the_events_ahead(self):
        pool = Pool()
        one, two = pool.term(("load", 0)), pool.term(("load", 1))
        sight = Foresight(pool, [(one, 7, 1), (two, 8, 3)])
        both = pool.normal("add", one, two)
        self.assertEqual(sight.settled(0, both), both)
        self.assertEqual(sight.settled(1, both), pool.normal("add", two, pool.word(7)))
        self.assertEqual(sight.settled(2, both), pool.normal("add", two, pool.word(7)))
        self.assertEqual(sight.settled(3, both), pool.word(15))


if __name__ == "__main__":
    unittest.main()
