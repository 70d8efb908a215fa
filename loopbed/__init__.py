"""Loopbed: patterns of stitches, and a bed of hooks that knits them."""
