"""Computations with squares of signs, with costs, and with patterns of texts."""
