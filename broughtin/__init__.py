"""Broughtin: who brought whom into a club, told back from days and counters."""
