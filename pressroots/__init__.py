"""Pressroots: what every compressed form of a text must keep."""
