"""Rings, their ideals and their idempotents."""
