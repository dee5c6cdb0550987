"""Knownlate: how late a fault is surely known, decided for all runs of a finite machine."""
