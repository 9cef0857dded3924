"""Guesscode: a hidden row of colours, and asks that tell it."""
