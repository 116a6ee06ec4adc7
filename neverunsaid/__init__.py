"""Neverunsaid: a store of many houses that mends itself and takes back nothing that still stands on a disk."""
