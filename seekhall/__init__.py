"""Seekhall: fillings that are sought, told, counted, and shown not to be."""
