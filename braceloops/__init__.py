"""Braceloops: products of rows of words, also if they stand for very many words."""
