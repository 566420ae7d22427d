"""Rows, tables, spaces and polynomials."""
