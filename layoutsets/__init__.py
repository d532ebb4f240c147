"""Documents with choices of line breaks, and the sets of layouts that they stand for."""
