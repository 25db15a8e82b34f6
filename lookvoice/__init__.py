"""Lookvoice: a second voice with the least look-ahead."""
