"""Tablerings: products that group, and the rooms on which they work."""
