"""Places that set their states one after the other, and what the order of the day changes."""
