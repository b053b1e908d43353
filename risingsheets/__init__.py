"""Risingsheets: printed timetables whose rows and columns rise."""
