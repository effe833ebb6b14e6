"""Which insides of a class can be reached from outside, and the fewest copies that shut it."""
