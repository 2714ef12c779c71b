"""Machines that are worked on."""
