"""Webs of arrows, their words, and the rings that they tell."""
