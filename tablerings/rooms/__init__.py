"""Rooms: spaces of rows on which the members of a ring work as tables."""
