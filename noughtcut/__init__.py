"""Noughtcut: nets of sums cut at nought, what they tell at most, and papers for it."""
