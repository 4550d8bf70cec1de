"""Minortables: tables with no minor below nought."""
