"""Rulestable: grammars, the tables that read by them, and papers for all that is told."""
