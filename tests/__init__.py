"""Tests of markpieces: run `python3 -m unittest` at the top of the repository."""
