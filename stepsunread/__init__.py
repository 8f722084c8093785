"""Stepsunread: what traces surely tell of steps that nobody can read."""
