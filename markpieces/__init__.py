"""Markpieces: pieces of texts told by patterns with marks."""
