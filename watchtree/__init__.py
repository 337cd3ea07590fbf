"""watchtree: supervision trees, step by step at the ticks of a clock."""
