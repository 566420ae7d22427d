"""Spaces, rings and rooms as texts."""
