"""Lastprices: is one price enough for all texts that a machine takes?"""
