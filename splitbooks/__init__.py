"""Splitbooks: tables that join two things and split one, and what their agreement forces."""
