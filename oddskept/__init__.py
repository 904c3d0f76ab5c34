"""Oddskept: what a shared object keeps in programs that throw coins."""
