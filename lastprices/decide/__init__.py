"""Decisions over all texts of machines: papers, dear texts, rings of arcs, and machines compared."""
