"""Dicepairs: dice with any whole numbers on their faces."""
