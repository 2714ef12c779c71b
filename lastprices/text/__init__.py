"""Machines, rows, squares and papers as texts, and a shell."""
