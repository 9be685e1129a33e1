"""Treehands: trees, readers from their leaves, and turners from their top."""
