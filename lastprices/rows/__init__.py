"""Rows of prices up to a cap, and tables of them."""
