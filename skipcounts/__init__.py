"""Words read in texts by skipping letters, and what is true of their counts for all texts."""
