"""Bookpack: books that are edited, rearranged, packed and recovered."""
