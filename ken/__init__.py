"""Ken: what is known, and how it grows."""
