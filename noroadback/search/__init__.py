"""The search for stands that never turn back, and what such stands tell."""
