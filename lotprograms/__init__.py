"""Programs with chance: read, shown in one form, and judged ahead of time."""
