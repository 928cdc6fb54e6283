"""Lesssay: statements without the excluded middle, and what is left of them without a letter."""
