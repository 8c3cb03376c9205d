"""Needfill: functions that fill unknowns as they are looked at."""
