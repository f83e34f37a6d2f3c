"""Near lines: copies of a few blocks of a memory."""
