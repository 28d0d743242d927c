"""Uselots: what each value of a run is used for, told exactly, and put together without running."""
