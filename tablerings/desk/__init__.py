"""Desks that keep rooms by names, and sayings that stay true of them."""
