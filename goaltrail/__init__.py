"""Goaltrail: goals asked by rules, in two ways, with tables and reasons."""
