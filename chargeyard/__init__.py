"""Chargeyard: guests that are filled from lines beneath lines."""
