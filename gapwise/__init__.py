"""Gapwise: programs over a line without gaps, and how great their endless sets are."""
