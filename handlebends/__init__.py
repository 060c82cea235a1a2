"""Curves drawn by handles, exactly, in fractions."""
