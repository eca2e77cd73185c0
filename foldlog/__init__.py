"""Foldlog: logbooks kept by clocks that are put forward and back."""
