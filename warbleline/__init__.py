"""Warbleline: two ends that talk over one bad wire."""
